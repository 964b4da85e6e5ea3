package tests

// Promise 12, the part of it that is about chunks and sessions; and what Next does to a session (promise 11).

import (
	"math"
	"math/rand"
	"slices"
	"strings"
	"testing"

	"loop.example/s0007/impl"
)

// wrongSessions are sessions that aren't OK, each for one reason.
var wrongSessions = []impl.Session{
	{},
	{Limit: -1},
	{Limit: impl.MaxLimit + 1},
	{Limit: math.MaxInt},
	{Limit: 2, Buf: "abc"},
	{Limit: 2, Buf: "ab", Scanned: 3},
	{Limit: 2, Buf: "ab", Scanned: -1},
	{Limit: 2, Buf: "ab", State: -1},
	{Limit: 2, Buf: "ab", State: impl.MaxStates},
	{Limit: 2, Buf: "ab", Closed: true, State: math.MaxInt},
	{Limit: 2, Buf: "ab", Scanned: math.MinInt},
}

func TestOpen(t *testing.T) {
	for _, limit := range []int{1, 2, 100, impl.MaxLimit - 1, impl.MaxLimit} {
		if s := impl.Open(limit); s != (impl.Session{Limit: limit}) {
			t.Error(limit, s)
		}
	}
	for _, limit := range []int{0, -1, impl.MaxLimit + 1, math.MaxInt, math.MinInt} {
		if s := impl.Open(limit); s != (impl.Session{}) {
			t.Error(limit, s)
		}
	}
}

func TestFeed(t *testing.T) {
	long := strings.Repeat("x", impl.MaxLimit)
	for i, x := range []struct {
		s     impl.Session
		chunk string
		code  int
	}{
		{impl.Session{Limit: 1}, "", impl.FeedOK},
		{impl.Session{Limit: 1}, "a", impl.FeedOK},
		{impl.Session{Limit: 1}, "ab", impl.FeedFull},
		{impl.Session{Limit: 1, Buf: "a"}, "", impl.FeedOK},
		{impl.Session{Limit: 1, Buf: "a"}, "b", impl.FeedFull},
		{impl.Session{Limit: 5, Buf: "abc", State: 7, Scanned: 2}, "de", impl.FeedOK},
		{impl.Session{Limit: 5, Buf: "abc", State: 7, Scanned: 2}, "def", impl.FeedFull},
		{impl.Session{Limit: 5, Buf: "abc", State: 3999, Scanned: 3}, "", impl.FeedOK},
		{impl.Session{Limit: 5, Buf: "abc", Closed: true, Scanned: 1, State: 4}, "", impl.FeedClosed},
		{impl.Session{Limit: 5, Buf: "abc", Closed: true}, "d", impl.FeedClosed},
		{impl.Session{Limit: 5, Buf: "abc", Closed: true}, "def", impl.FeedClosed},
		{impl.Session{Limit: impl.MaxLimit}, long, impl.FeedOK},
		{impl.Session{Limit: impl.MaxLimit}, long + "x", impl.FeedFull},
		{impl.Session{Limit: impl.MaxLimit, Buf: long}, "", impl.FeedOK},
		{impl.Session{Limit: impl.MaxLimit, Buf: long[1:]}, "\x00", impl.FeedOK},
		{impl.Session{Limit: impl.MaxLimit, Buf: long}, "x", impl.FeedFull},
	} {
		want := x.s
		if x.code == impl.FeedOK {
			want.Buf += x.chunk
		}
		if got, code := impl.Feed(x.s, x.chunk); got != want || code != x.code {
			t.Error(i, code, got.Limit, len(got.Buf), got.Closed, got.State, got.Scanned)
		}
	}
	for i, s := range wrongSessions {
		for _, chunk := range []string{"", "a", long} {
			if got, code := impl.Feed(s, chunk); got != (impl.Session{}) || code != impl.FeedBad {
				t.Error("wrong session", i, got, code)
			}
		}
	}
}

func TestFinish(t *testing.T) {
	for _, s := range []impl.Session{{Limit: 1}, {Limit: 5, Buf: "abc", State: 7, Scanned: 2}, {Limit: impl.MaxLimit, State: impl.MaxStates - 1}} {
		want := s
		want.Closed = true
		once := impl.Finish(s)
		if once != want || impl.Finish(once) != want {
			t.Error(s, once)
		}
	}
	for i, s := range wrongSessions {
		if got := impl.Finish(s); got != (impl.Session{}) {
			t.Error("wrong session", i, got)
		}
	}
}

func TestFeedAtRandom(t *testing.T) {
	rnd := rand.New(rand.NewSource(23))
	for range 3000 {
		s := impl.Session{Limit: 1 + rnd.Intn(8), State: rnd.Intn(5), Closed: rnd.Intn(5) == 0}
		s.Buf = randomText(rnd, "ab", s.Limit)
		s.Scanned = rnd.Intn(len(s.Buf) + 1)
		chunk := randomText(rnd, "cd", 9)
		got, code := impl.Feed(s, chunk)
		fits := !s.Closed && len(s.Buf)+len(chunk) <= s.Limit
		if fits != (code == impl.FeedOK) || !fits && got != s || len(got.Buf) > got.Limit {
			t.Fatal(s, chunk, got, code)
		}
	}
}

func TestNextGoesOnWithTheRun(t *testing.T) {
	m := matcherOf(t, "abc", "x+y")
	s, _ := impl.Feed(impl.Open(9), "zzab")
	s, answer := impl.Next(m, s)
	if !sameAnswer(answer, impl.Answer{Kind: impl.AnsMore}) || s.Buf != "zzab" || s.Scanned != 4 || s.State == 0 || s.Limit != 9 || s.Closed {
		t.Fatal(s, answer)
	}
	again, answer := impl.Next(m, s)
	if answer.Kind != impl.AnsMore || again != s {
		t.Fatal("asked twice:", again, answer)
	}
	// The state knows of the bytes that have been run: other bytes in their place make no difference to the run.
	s.Buf = "????"
	s, _ = impl.Feed(s, "cxx")
	s, answer = impl.Next(m, s)
	if answer.Kind != impl.AnsMatch || answer.Rule != 0 || answer.Start != -1 || answer.End != 5 || !slices.Equal(answer.Spans, spansOf(-1, -1)) {
		t.Fatal("bytes were run twice:", s, answer)
	}
	if s != (impl.Session{Limit: 9, Buf: "xx"}) {
		t.Fatal("not anew on what is left:", s)
	}
	s, _ = impl.Feed(impl.Finish(s), "y")
	s, answer = impl.Next(m, s)
	if !sameAnswer(answer, impl.Answer{Kind: impl.AnsNone}) || s.Scanned != 2 || s.Buf != "xx" || !s.Closed {
		t.Fatal(s, answer)
	}
}

func TestNextAtTheEnd(t *testing.T) {
	m := matcherOf(t, "ab$", "b", "^c$")
	for _, x := range []struct {
		s    impl.Session
		want impl.Answer
		left string
	}{
		{impl.Session{Limit: 9, Buf: "ab"}, impl.Answer{Kind: 1, Rule: 1, Start: 1, End: 2, Spans: spansOf(1, 2)}, ""},
		{impl.Session{Limit: 9, Buf: "ab", Closed: true}, impl.Answer{Kind: 1, Rule: 0, Start: 0, End: 2, Spans: spansOf(0, 2)}, ""},
		{impl.Session{Limit: 9, Buf: "abx", Closed: true}, impl.Answer{Kind: 1, Rule: 1, Start: 1, End: 2, Spans: spansOf(1, 2)}, "x"},
		{impl.Session{Limit: 9, Buf: "bab", Closed: true}, impl.Answer{Kind: 1, Rule: 1, Start: 0, End: 1, Spans: spansOf(0, 1)}, "ab"},
		{impl.Session{Limit: 9, Buf: "c"}, impl.Answer{Kind: 2}, "c"},
		{impl.Session{Limit: 9, Buf: "c", Closed: true}, impl.Answer{Kind: 1, Rule: 2, Start: 0, End: 1, Spans: spansOf(0, 1)}, ""},
		{impl.Session{Limit: 9, Buf: "ac", Closed: true}, impl.Answer{Kind: 3}, "ac"},
		{impl.Session{Limit: 9, Closed: true}, impl.Answer{Kind: 3}, ""},
		{impl.Session{Limit: 9}, impl.Answer{Kind: 2}, ""},
	} {
		s, answer := impl.Next(m, x.s)
		if !sameAnswer(answer, x.want) || s.Buf != x.left || s.Closed != x.s.Closed || s.Limit != 9 {
			t.Error(x.s, s, answer)
		}
		if answer.Kind == impl.AnsMatch && (s.State != 0 || s.Scanned != 0) {
			t.Error("not anew:", s)
		}
	}
	// The bytes have all been run when the stream ends: the same state answers otherwise then.
	s, answer := impl.Next(m, impl.Session{Limit: 9, Buf: "c"})
	if answer.Kind != impl.AnsMore || s.Scanned != 1 {
		t.Fatal(s, answer)
	}
	if s, answer = impl.Next(m, impl.Finish(s)); answer.Kind != impl.AnsMatch || answer.Rule != 2 || s.Buf != "" {
		t.Error(s, answer)
	}
}

func TestNextEmptyMatch(t *testing.T) {
	m := matcherOf(t, "b", "(a*)", "c*$")
	s, _ := impl.Feed(impl.Open(4), "ab")
	for range 3 {
		next, answer := impl.Next(m, s)
		if next != s || !sameAnswer(answer, impl.Answer{Kind: 1, Rule: 1, Spans: spansOf(0, 0, 0, 0)}) {
			t.Fatal(next, answer)
		}
	}
	m = matcherOf(t, "b", "c*$")
	s, answer := impl.Next(m, impl.Session{Limit: 4, Buf: "a", Closed: true})
	if !sameAnswer(answer, impl.Answer{Kind: 1, Rule: 1, Start: 1, End: 1, Spans: spansOf(1, 1)}) || s.Buf != "" {
		t.Error(s, answer)
	}
	if s, answer = impl.Next(m, s); !sameAnswer(answer, impl.Answer{Kind: 1, Rule: 1, Spans: spansOf(0, 0)}) || !s.Closed {
		t.Error(s, answer)
	}
}

// A matcher that isn't OK, each for one reason.
func wrongMatchers(t *testing.T) map[string]impl.Matcher {
	good := func() impl.Matcher { return impl.Matcher{Rules: parsedAll(t, "ab", "c"), Table: abTable()} }
	wrong := map[string]impl.Matcher{"nothing": {}}
	m := good()
	m.Table.Tag[0] = 2
	wrong["a tag that names no rule"] = m
	m = good()
	m.Table.End[2] = 2
	wrong["an end that names no rule"] = m
	m = good()
	m.Rules = nil
	wrong["no rule for the tag"] = m
	m = good()
	m.Table.Tag[1] = -2
	wrong["a table that isn't OK"] = m
	m = good()
	m.Table.Next[4] = 3
	wrong["a table that leads nowhere"] = m
	m = good()
	m.Rules[1] = impl.Rule{}
	wrong["a rule that isn't OK"] = m
	m = good()
	m.Rules[1].Groups = 1
	wrong["a rule without its group"] = m
	m = good()
	m.Rules = parsedAll(t, "(a{250}){8}", "(a{250}){8}", "a")
	wrong["too heavy"] = m
	m = good()
	for range impl.MaxRules - 1 {
		m.Rules = append(m.Rules, parsed(t, "x"))
	}
	wrong["too many rules"] = m
	return wrong
}

func TestNextWrongInputs(t *testing.T) {
	ok := impl.Session{Limit: 4, Buf: "xab"}
	for name, m := range wrongMatchers(t) {
		if s, answer := impl.Next(m, ok); s != (impl.Session{}) || !sameAnswer(answer, impl.Answer{}) {
			t.Error(name, s, answer)
		}
	}
	m := matcherOf(t, "ab") // of three states
	for i, s := range wrongSessions {
		if s, answer := impl.Next(m, s); s != (impl.Session{}) || !sameAnswer(answer, impl.Answer{}) {
			t.Error("wrong session", i, s, answer)
		}
	}
	for _, state := range []int{3, 4, impl.MaxStates - 1} {
		if s, answer := impl.Next(m, impl.Session{Limit: 4, Buf: "ab", State: state}); s != (impl.Session{}) || answer.Kind != impl.AnsBad {
			t.Error("a state that the table hasn't:", state, s, answer)
		}
	}
	if _, answer := impl.Next(m, impl.Session{Limit: 4, Buf: "xb", Scanned: 1, State: 2}); answer.Kind != impl.AnsMatch || answer.Start != -1 {
		t.Error("a state that the table has:", answer)
	}
}

// As many rules as there may be, and as heavy as they may be.
func TestNextEdgesOfMatchers(t *testing.T) {
	m := impl.Matcher{Rules: parsedAll(t, "(a{250}){8}", "(b{250}){8}"), Table: abTable()}
	if s, answer := impl.Next(m, impl.Session{Limit: 4, Buf: "ab"}); answer.Kind != impl.AnsMatch || answer.Start != -1 || s.Buf != "" {
		t.Error(s, answer)
	}
	m = impl.Matcher{Rules: parsedAll(t, slices.Repeat([]string{"b"}, impl.MaxRules)...), Table: abTable()}
	m.Table.Tag[2], m.Table.End[2] = impl.MaxRules-1, impl.MaxRules-2
	if _, answer := impl.Next(m, impl.Session{Limit: 4, Buf: "ab"}); answer.Rule != impl.MaxRules-1 || answer.Start != 1 {
		t.Error(answer)
	}
	if _, answer := impl.Next(m, impl.Session{Limit: 4, Buf: "ab", Closed: true}); answer.Rule != impl.MaxRules-2 || answer.Start != 1 {
		t.Error(answer)
	}
	none := impl.Matcher{Table: matcherOf(t).Table}
	if s, answer := impl.Next(none, impl.Session{Limit: 4, Buf: "ab"}); answer.Kind != impl.AnsMore || s.Scanned != 2 {
		t.Error(s, answer)
	}
}

func TestNextChangesNothing(t *testing.T) {
	m := matcherOf(t, "(a)(b)*", "c")
	before := copyTable(m.Table)
	_, first := impl.Next(m, impl.Session{Limit: 4, Buf: "xa"})
	want := slices.Clone(first.Spans)
	first.Spans[0].Start = 99
	_, second := impl.Next(m, impl.Session{Limit: 4, Buf: "xa"})
	if !slices.Equal(second.Spans, want) || !sameTable(m.Table, before) {
		t.Error(second)
	}
}
