package tests

// Promises 10, 11 and 12: scripts over built matchers, and over tables from anywhere.

import (
	"math"
	"math/rand"
	"slices"
	"strings"
	"testing"

	"loop.example/s0007/impl"
)

func TestScriptByHand(t *testing.T) {
	m := matcherOf(t, "(b)$|^(x)", "(a+)b", "(b)")
	got := impl.RunOps(m, 5, []impl.Op{
		ask(), feed("aab"), ask(), ask(), feed("xb"), ask(), ask(), feed("xa"), feed("bbb"), feed("bb"), feed(""), ask(),
		ask(), feed("yb"), finish(), finish(), ask(), ask(), feed("b"), ask(),
	})
	want := []impl.Answer{
		{Kind: impl.AnsMore},
		{Kind: impl.AnsFed},
		{Kind: impl.AnsMatch, Rule: 1, Start: 0, End: 3, Spans: spansOf(0, 3, 0, 2)},
		{Kind: impl.AnsMore},
		{Kind: impl.AnsFed},
		{Kind: impl.AnsMatch, Rule: 0, Start: 0, End: 1, Spans: spansOf(0, 1, -1, -1, 0, 1)},
		{Kind: impl.AnsMatch, Rule: 2, Start: 0, End: 1, Spans: spansOf(0, 1, 0, 1)},
		{Kind: impl.AnsFed},
		{Kind: impl.AnsFed},
		{Kind: impl.AnsRefused, Rule: impl.FeedFull},
		{Kind: impl.AnsFed},
		{Kind: impl.AnsMatch, Rule: 0, Start: 0, End: 1, Spans: spansOf(0, 1, -1, -1, 0, 1)},
		{Kind: impl.AnsMatch, Rule: 1, Start: 0, End: 2, Spans: spansOf(0, 2, 0, 1)},
		{Kind: impl.AnsFed},
		{Kind: impl.AnsEnded},
		{Kind: impl.AnsEnded},
		{Kind: impl.AnsMatch, Rule: 2, Start: 0, End: 1, Spans: spansOf(0, 1, 0, 1)},
		{Kind: impl.AnsMatch, Rule: 2, Start: 0, End: 1, Spans: spansOf(0, 1, 0, 1)},
		{Kind: impl.AnsRefused, Rule: impl.FeedClosed},
		{Kind: impl.AnsMatch, Rule: 0, Start: 1, End: 2, Spans: spansOf(1, 2, 1, 2, -1, -1)},
	}
	for i := range want {
		if i >= len(got) || !sameAnswer(got[i], want[i]) {
			t.Fatalf("operation %d: %v, want %v", i, got, want[i])
		}
	}
	if len(got) != len(want) {
		t.Error(got)
	}
}

// The least end, then the least rule, then the least start.
func TestScriptLeastMatch(t *testing.T) {
	for _, x := range []struct {
		patterns   []string
		u          string
		closed     bool
		rule, a, b int
	}{
		{[]string{"aab", "ab", "b"}, "aab", false, 0, 0, 3},
		{[]string{"b", "ab", "aab"}, "aab", false, 0, 2, 3},
		{[]string{"aabc", "ab"}, "aabc", false, 1, 1, 3},
		{[]string{"a+"}, "xaaa", false, 0, 1, 2},
		{[]string{"a+b"}, "xaaab", false, 0, 1, 5},
		{[]string{".*b"}, "xaaab", false, 0, 0, 5},
		{[]string{"x$", "x"}, "ax", true, 0, 1, 2},
		{[]string{"x$", "x"}, "ax", false, 1, 1, 2},
		{[]string{"x$", "x"}, "axy", true, 1, 1, 2},
		{[]string{"^ab", "b"}, "ab", false, 0, 0, 2},
		{[]string{"^ab", "b"}, "aab", false, 1, 2, 3},
		{[]string{"ab|^b", "b"}, "cab", false, 0, 1, 3},
		{[]string{"a*$", "b"}, "caa", true, 0, 1, 3},
		{[]string{"b", "a*"}, "caa", true, 1, 0, 0},
		{[]string{"^a*b|a$"}, "ca", true, 0, 1, 2},
		{[]string{"(a|b)*$"}, "abcab", true, 0, 3, 5},
		{[]string{"^(a|b)*$|c$"}, "abc", true, 0, 2, 3},
		{[]string{"[^\x00-\x7f]{2}"}, "a\x80b\xff\xfe", false, 0, 3, 5},
	} {
		ops := []impl.Op{feed(x.u), ask()}
		if x.closed {
			ops = []impl.Op{feed(x.u), finish(), ask()}
		}
		got := impl.RunOps(matcherOf(t, x.patterns...), 10, ops)
		last := got[len(got)-1]
		if last.Kind != impl.AnsMatch || last.Rule != x.rule || last.Start != x.a || last.End != x.b {
			t.Errorf("%q on %q: %v", x.patterns, x.u, last)
		}
	}
}

func randomOps(rnd *rand.Rand, alphabet string, most int) []impl.Op {
	ops := []impl.Op{}
	for range rnd.Intn(most) {
		op := impl.Op{Kind: 1 + rnd.Intn(2), Data: randomText(rnd, alphabet, 4)}
		if rnd.Intn(15) == 0 {
			op.Kind = impl.OpFinish
		}
		ops = append(ops, op)
	}
	return ops
}

func TestScriptsLikeTheWords(t *testing.T) {
	rnd := rand.New(rand.NewSource(24))
	kinds := map[int]int{}
	for range 1500 {
		patterns := []string{}
		for range rnd.Intn(4) {
			patterns = append(patterns, randomPattern(rnd))
		}
		m := matcherOf(t, patterns...)
		limit, ops := 1+rnd.Intn(8), randomOps(rnd, "abc", 16)
		got := impl.RunOps(m, limit, ops)
		want := slowScript(limit, ops, func(u string, closed bool) impl.Answer { return slowFind(m.Rules, u, closed) })
		if !sameScript(got, want) {
			t.Fatalf("%q, limit %d, %v: %v, want %v", patterns, limit, ops, got, want)
		}
		for _, answer := range got {
			kinds[answer.Kind]++
		}
	}
	for kind := impl.AnsMatch; kind <= impl.AnsEnded; kind++ {
		if kinds[kind] < 100 {
			t.Error("too few of kind", kind, kinds[kind])
		}
	}
}

// streamLists have no pattern that matches the empty text, as that would be found again and again.
var streamLists = [][]string{
	{"ab", "b"},
	{"(a|b)c+", "(b)(a)"},
	{"^a", "b$", "ab"},
	{"^(a)|(b)$", "(c+)$", "c"},
	{"(a+)b|(b+)a", "cc"},
	{"(abc)*b", "a$"},
	{"b{2,3}", "^(ab)*c", "aaa"},
	{"(.)(.)(.)"},
	{".", "a"},
	{"aba$|^bab|c(a)", "bcb"},
	{emptySet, "a.*c"},
}

// matchesOf feeds the chunks, asks after each until no match is left, and gives the matches with offsets from the
// beginning of the stream.
func matchesOf(t *testing.T, m impl.Matcher, chunks []string) []impl.Answer {
	t.Helper()
	ops := []impl.Op{}
	total := 0
	for _, chunk := range chunks {
		total += len(chunk)
		ops = append(ops, feed(chunk))
		for range len(chunk) + 1 {
			ops = append(ops, ask())
		}
	}
	ops = append(ops, finish())
	for range total + 1 {
		ops = append(ops, ask())
	}
	return flow(impl.RunOps(m, impl.MaxLimit, ops))
}

func flow(answers []impl.Answer) []impl.Answer {
	list := []impl.Answer{}
	consumed := 0
	for _, x := range answers {
		if x.Kind != impl.AnsMatch {
			continue
		}
		shifted := impl.Answer{Kind: x.Kind, Rule: x.Rule, Start: x.Start + consumed, End: x.End + consumed, Spans: x.Spans}
		list = append(list, shifted)
		consumed += x.End
	}
	return list
}

func TestScriptChunksMakeNoDifference(t *testing.T) {
	rnd := rand.New(rand.NewSource(25))
	for _, patterns := range streamLists {
		m := matcherOf(t, patterns...)
		for range 60 {
			bytes := randomText(rnd, "abc", 14)
			var first []impl.Answer
			for i, chunks := range cuttings(rnd, bytes) {
				list := matchesOf(t, m, chunks)
				if i == 0 {
					first = list
				}
				// A match at the last byte may be a match with $ if the end of the stream is known by then.
				if before, now := early(first, bytes), early(list, bytes); !sameScript(before, now) {
					t.Fatalf("%q on %q: %v, cut %q: %v", patterns, bytes, first, chunks, list)
				}
			}
		}
	}
}

// early leaves out a match at the last byte.
func early(list []impl.Answer, bytes string) []impl.Answer {
	if n := len(list); n > 0 && list[n-1].End == len(bytes) {
		return list[:n-1]
	}
	return list
}

// Here the askings come at the same bytes, and the bytes between two of them are cut in another way each time.
func TestScriptChunksBetweenAskings(t *testing.T) {
	rnd := rand.New(rand.NewSource(26))
	for _, patterns := range append(streamLists, []string{"a*", "b"}, []string{"^(a|b)*$", "c"}) {
		m := matcherOf(t, patterns...)
		for range 40 {
			pieces := []string{randomText(rnd, "abc", 6), randomText(rnd, "abc", 6), randomText(rnd, "abc", 6)}
			var first []impl.Answer
			for way := range 4 {
				ops := []impl.Op{}
				for _, piece := range pieces {
					for _, chunk := range cuttings(rnd, piece)[way] {
						ops = append(ops, feed(chunk))
					}
					ops = append(ops, ask(), ask())
				}
				ops = append(ops, finish(), ask(), ask())
				asked := askings(impl.RunOps(m, 18, ops))
				if way == 0 {
					first = asked
				}
				if !sameScript(asked, first) {
					t.Fatalf("%q on %q: %v, cut otherwise: %v", patterns, pieces, first, asked)
				}
			}
		}
	}
}

func askings(answers []impl.Answer) []impl.Answer {
	return slices.DeleteFunc(answers, func(x impl.Answer) bool { return x.Kind >= impl.AnsFed })
}

func TestScriptIsItsOperations(t *testing.T) {
	rnd := rand.New(rand.NewSource(27))
	for _, patterns := range lists {
		m := matcherOf(t, patterns...)
		for range 20 {
			limit, ops := 1+rnd.Intn(9), randomOps(rnd, alphabet, 20)
			list := []impl.Answer{}
			s := impl.Open(limit)
			for _, op := range ops {
				answer, code := impl.Answer{Kind: impl.AnsEnded}, 0
				switch op.Kind {
				case impl.OpFeed:
					s, code = impl.Feed(s, op.Data)
					answer.Kind = impl.AnsFed
					if code != impl.FeedOK {
						answer = impl.Answer{Kind: impl.AnsRefused, Rule: code}
					}
				case impl.OpNext:
					s, answer = impl.Next(m, s)
				case impl.OpFinish:
					s = impl.Finish(s)
				}
				if len(s.Buf) > s.Limit || s.Limit != limit {
					t.Fatal(s)
				}
				list = append(list, answer)
			}
			if got := impl.RunOps(m, limit, ops); !sameScript(got, list) {
				t.Fatalf("%q: %v: %v, want %v", patterns, ops, got, list)
			}
		}
	}
}

func TestScriptWrongInputs(t *testing.T) {
	m := matcherOf(t, "ab")
	good := []impl.Op{feed("ab"), ask(), finish()}
	for _, limit := range []int{0, -1, impl.MaxLimit + 1, math.MaxInt, math.MinInt} {
		if got := impl.RunOps(m, limit, good); len(got) != 0 {
			t.Error(limit, got)
		}
	}
	for _, kind := range []int{0, 4, -1, math.MaxInt, math.MinInt} {
		for _, ops := range [][]impl.Op{{{Kind: kind}}, append(slices.Clone(good), impl.Op{Kind: kind}), {{Kind: kind}, feed("ab")}} {
			if got := impl.RunOps(m, 9, ops); len(got) != 0 {
				t.Error(kind, got)
			}
		}
	}
	for name, wrong := range wrongMatchers(t) {
		if got := impl.RunOps(wrong, 9, good); len(got) != 0 {
			t.Error(name, got)
		}
	}
	if got := impl.RunOps(m, 9, nil); len(got) != 0 {
		t.Error(got)
	}
	// Data of other operations isn't read.
	got := impl.RunOps(m, 2, []impl.Op{{Kind: impl.OpNext, Data: "ab"}, {Kind: impl.OpFinish, Data: "abc"}, {Kind: impl.OpNext, Data: "ab"}})
	if !sameScript(got, []impl.Answer{{Kind: impl.AnsMore}, {Kind: impl.AnsEnded}, {Kind: impl.AnsNone}}) {
		t.Error(got)
	}
}

func TestScriptLimits(t *testing.T) {
	m := matcherOf(t, "(x)y")
	got := impl.RunOps(m, 1, []impl.Op{feed("xy"), feed("x"), feed(""), feed("y"), ask()})
	if !sameScript(got, []impl.Answer{{Kind: 5, Rule: 3}, {Kind: 4}, {Kind: 4}, {Kind: 5, Rule: 3}, {Kind: 2}}) {
		t.Error(got)
	}
	long := strings.Repeat("x", impl.MaxLimit-1) + "y"
	got = impl.RunOps(m, impl.MaxLimit, []impl.Op{feed(long + "z"), feed(long), ask(), feed(long), feed("x"), ask()})
	match := impl.Answer{Kind: 1, Start: impl.MaxLimit - 2, End: impl.MaxLimit, Spans: spansOf(impl.MaxLimit-2, impl.MaxLimit, impl.MaxLimit-2, impl.MaxLimit-1)}
	if !sameScript(got, []impl.Answer{{Kind: 5, Rule: 3}, {Kind: 4}, match, {Kind: 4}, {Kind: 5, Rule: 3}, match}) {
		t.Error(got)
	}
}

func TestScriptOfMaxOps(t *testing.T) {
	m := matcherOf(t, "(a|b)c", "a*d")
	ops := []impl.Op{}
	for len(ops) < impl.MaxOps {
		ops = append(ops, feed("a"), ask(), feed("c"), ask())
	}
	got := impl.RunOps(m, 2, ops)
	if len(got) != impl.MaxOps {
		t.Fatal(len(got))
	}
	for i, x := range got {
		want := []impl.Answer{{Kind: 4}, {Kind: 2}, {Kind: 4}, {Kind: 1, End: 2, Spans: spansOf(0, 2, 0, 1)}}[i%4]
		if !sameAnswer(x, want) {
			t.Fatal(i, x)
		}
	}
	if got := impl.RunOps(m, 2, append(ops, ask())); len(got) != 0 {
		t.Error(len(got))
	}
}

// randomMatcher makes an OK matcher of random rules and a random table that came from an image.
func randomMatcher(t *testing.T, rnd *rand.Rand) impl.Matcher {
	rules := []impl.Rule{}
	for range 1 + rnd.Intn(4) {
		rules = append(rules, groupedRule(rnd))
	}
	p := randomTable(rnd, 1+rnd.Intn(6), rnd.Intn(60))
	for s := range p.Tag {
		p.Tag[s], p.End[s] = rnd.Intn(3*len(rules))-2*len(rules), rnd.Intn(2*len(rules))-len(rules)
		p.Tag[s], p.End[s] = max(p.Tag[s], -1), max(p.End[s], -1)
	}
	loaded, code := impl.Load(impl.Encode(p))
	if code != impl.LoadOK || !impl.TableOK(loaded) {
		t.Fatal(code)
	}
	return impl.Matcher{Rules: rules, Table: loaded}
}

func TestScriptsOverStrangeTables(t *testing.T) {
	rnd := rand.New(rand.NewSource(28))
	started, unstarted := 0, 0
	for range 1500 {
		m := randomMatcher(t, rnd)
		limit, ops := 1+rnd.Intn(8), randomOps(rnd, "abc\xff", 14)
		got := impl.RunOps(m, limit, ops)
		if len(got) != len(ops) {
			t.Fatal(m, ops, got)
		}
		s := impl.Open(limit)
		for i, op := range ops {
			want := got[i]
			switch op.Kind {
			case impl.OpFeed:
				s, _ = impl.Feed(s, op.Data)
			case impl.OpFinish:
				s = impl.Finish(s)
			case impl.OpNext:
				s, want = slowNext(m, s)
			}
			if !sameAnswer(got[i], want) {
				t.Fatalf("%v, limit %d, %v: answer %d is %v, want %v", m, limit, ops, i, got[i], want)
			}
			if want.Kind == impl.AnsMatch && want.Start == -1 {
				unstarted++
			} else if want.Kind == impl.AnsMatch {
				started++
			}
		}
	}
	if started < 300 || unstarted < 300 {
		t.Error("too few matches", started, unstarted)
	}
}

func TestNextOverStrangeTables(t *testing.T) {
	rnd := rand.New(rand.NewSource(29))
	for range 3000 {
		m := randomMatcher(t, rnd)
		s := impl.Session{Limit: 1 + rnd.Intn(7), State: rnd.Intn(len(m.Table.Base)), Closed: rnd.Intn(2) == 0}
		s.Buf = randomText(rnd, "abc\xff", s.Limit)
		s.Scanned = rnd.Intn(len(s.Buf) + 1)
		got, answer := impl.Next(m, s)
		want, wanted := slowNext(m, s)
		if got != want || !sameAnswer(answer, wanted) {
			t.Fatalf("%v, %v: %v %v, want %v %v", m, s, got, answer, want, wanted)
		}
	}
}

// An image of one list with the rules of another.
func TestScriptOverAnotherImage(t *testing.T) {
	table, code := impl.Load(impl.Encode(matcherOf(t, "ab", "c").Table))
	if code != impl.LoadOK {
		t.Fatal(code)
	}
	m := impl.Matcher{Rules: parsedAll(t, "(x)|(b)", "(a)(b)"), Table: table}
	got := impl.RunOps(m, 9, []impl.Op{feed("xabxc"), ask(), ask(), ask()})
	want := []impl.Answer{
		{Kind: 4},
		{Kind: 1, Rule: 0, Start: 2, End: 3, Spans: spansOf(2, 3, -1, -1, 2, 3)},
		{Kind: 1, Rule: 1, Start: -1, End: 2, Spans: spansOf(-1, -1, -1, -1, -1, -1)},
		{Kind: 2},
	}
	if !sameScript(got, want) {
		t.Error(got)
	}
}

// The first group has far more sets of positions than an automaton may, and each text leads through other ones. A reader
// that kept them all would grow without end; what it tells mustn't hang on what it still knows.
func TestScriptOfManySets(t *testing.T) {
	m := impl.Matcher{Rules: parsedAll(t, "^(.*a.{13})(b*)(a*)c"), Table: matcherOf(t, "c").Table}
	rnd := rand.New(rand.NewSource(30))
	ops, want := []impl.Op{}, []impl.Answer{}
	found := 0
	for range 60 {
		text := make([]byte, 1000+rnd.Intn(2000))
		for i := range text {
			text[i] = "ab"[rnd.Intn(2)]
		}
		answer := manySets(string(text))
		ops, want = append(ops, feed(string(text)+"c"), ask()), append(want, impl.Answer{Kind: impl.AnsFed}, answer)
		if answer.Start == 0 {
			found++
		}
	}
	if got := impl.RunOps(m, impl.MaxLimit, ops); !sameScript(got, want) {
		t.Fatal("another answer")
	}
	if found < 20 {
		t.Error("only", found, "matches")
	}
}

// manySets is the answer to the rule ^(.*a.{13})(b*)(a*)c on a text of a and b that a c ends.
func manySets(text string) impl.Answer {
	n := len(text)
	bs := len(strings.TrimRight(text, "a"))
	low := len(strings.TrimRight(text[:bs], "b"))
	for k := n; k >= low; k-- {
		if text[k-14] == 'a' {
			last := max(k, bs)
			return impl.Answer{Kind: 1, End: n + 1, Spans: spansOf(0, n+1, 0, k, k, last, last, n)}
		}
	}
	return impl.Answer{Kind: 1, Start: -1, End: n + 1, Spans: spansOf(-1, -1, -1, -1, -1, -1, -1, -1)}
}

// Rules that match thousands of times, long texts, and one rule that is as heavy as can be.
func TestScriptEndsSoon(t *testing.T) {
	table := matcherOf(t, "b").Table
	long := strings.Repeat("a", impl.MaxLimit-1) + "b"
	for _, x := range []struct {
		pattern string
		ops     int
	}{{"(a*)b", impl.MaxOps}, {"((a)|(c))*b", impl.MaxOps}, {"(a|aa)*b", impl.MaxOps}, {"((a*)*)*b", impl.MaxOps}, {"((a?){199}){10}b", 1000}} {
		m := impl.Matcher{Rules: parsedAll(t, x.pattern), Table: table}
		ops := []impl.Op{}
		for range 40 {
			ops = append(ops, feed(long), ask())
		}
		for len(ops) < x.ops {
			ops = append(ops, feed("b"), ask())
		}
		got := impl.RunOps(m, impl.MaxLimit, ops)
		if len(got) != x.ops || got[1].End != len(long) || got[1].Start < 0 || got[x.ops-1].Start != 0 || got[x.ops-1].End != 1 {
			t.Fatal(x.pattern, len(got))
		}
	}
}
