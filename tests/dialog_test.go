package tests

// Promises 15 and 16: RunDialog.

import (
	"math/rand"
	"slices"
	"strings"
	"testing"

	"loop.example/s0007/impl"
)

func matched(item, from, to int, sent string) impl.Step {
	return impl.Step{Cause: impl.CauseMatch, Item: item, From: from, To: to, Sent: sent}
}

func timedOut(from, to int, sent string) impl.Step {
	return impl.Step{Cause: impl.CauseTimeout, From: from, To: to, Sent: sent}
}

func filledUp(from, to int, sent string) impl.Step {
	return impl.Step{Cause: impl.CauseFull, From: from, To: to, Sent: sent}
}

func ended(from, code int) impl.Step {
	return impl.Step{Cause: impl.CauseEof, From: from, To: -1, Exit: code}
}

// leaving is a step that ends the dialogue.
func leaving(s impl.Step, code int) impl.Step {
	s.To, s.Exit = -1, code
	return s
}

// waits and stops are outcomes of dialogues that aren't done, and that are.
func waits(state, ticks int, buf string, steps ...impl.Step) impl.Outcome {
	return impl.Outcome{Trace: steps, State: state, Ticks: ticks, Buf: buf}
}

func stops(state, ticks int, buf string, code int, steps ...impl.Step) impl.Outcome {
	return impl.Outcome{Trace: steps, State: state, Ticks: ticks, Buf: buf, Done: true, Exit: code}
}

func checkRun(t *testing.T, p impl.Program, list []impl.Event, want impl.Outcome) {
	t.Helper()
	if got := impl.RunDialog(p, list); !sameOutcome(got, want) {
		t.Errorf("%+v with %+v:\n%+v, not\n%+v", p, list, got, want)
	}
}

func TestDialogOfTheExample(t *testing.T) {
	p, code, _ := impl.ParseProgram("limit 16 100\nstate 9\non =login:%20* 1 =bob%0A\nstate 3\non =(fail|bad) x1 =\non =id=([0-9]+); 1 =ok%20\\1%0A\ntimeout 2 x4 =bye\n")
	if code != impl.ProgOK {
		t.Fatal(code)
	}
	first, second := matched(0, 0, 1, "bob\n"), matched(1, 1, 1, "ok 42\n")
	bye := leaving(timedOut(1, -1, "bye"), 4)
	checkRun(t, p, nil, waits(0, 0, ""))
	checkRun(t, p, events(in("login: id="), in("42;"), tick(), tick()), stops(1, 2, "", 4, first, second, bye))
	checkRun(t, p, events(in("login: id=42;login:"), tick()), waits(1, 1, "login:", first, second))
	checkRun(t, p, events(in("login: id="), tick(), in("7;"), tick()), waits(1, 1, "", first, matched(1, 1, 1, "ok 7\n")))
	checkRun(t, p, events(tick(), tick(), tick(), in("log"), eof()), stops(0, 3, "log", 9, ended(0, 9)))
	checkRun(t, p, events(in("login:bad"), tick(), eof()), stops(1, 0, "", 1, first, leaving(matched(0, 1, -1, ""), 1)))
	checkRun(t, p, events(in(strings.Repeat("x", 16)+"login:"), eof()), stops(1, 0, "", 3, first, ended(1, 3)))
}

// The least end, then the least case, then the least start.
func TestDialogTakesTheFirstMatch(t *testing.T) {
	for _, c := range []struct {
		patterns []string
		text     string
		item     int
		sent     string
	}{
		{[]string{"abc", "b"}, "ab", 1, "b"}, {[]string{"b", "ab"}, "ab", 0, "b"}, {[]string{"ab", "b"}, "ab", 0, "ab"},
		{[]string{"b|ab|aab"}, "aab", 0, "aab"}, {[]string{"a+", "a"}, "xa", 0, "a"}, {[]string{"^b", "c"}, "abc", 1, "c"},
		{[]string{"^x", "b$", "bc"}, "abc", 2, "bc"}, {[]string{"(a|b)*c", "ac"}, "ababc", 0, "ababc"},
	} {
		s := impl.State{}
		for _, pattern := range c.patterns {
			s.Cases = append(s.Cases, on(pattern, goTo(1, `\0`)))
		}
		checkRun(t, program(10, s, impl.State{}), events(in(c.text)), waits(1, 0, "", matched(c.item, 0, 1, c.sent)))
	}
}

func TestDialogFillsFromTheMatch(t *testing.T) {
	long := strings.Repeat("a", 700)
	for _, c := range []struct{ pattern, template, text, sent string }{
		{"(a|ab)(c|bcd)(d*)e", `\1.\2.\3.\0`, "abcde", "ab.c.d.abcde"},
		{"(a)|(b)", `[\1][\2]`, "xb", "[][b]"},
		{"((a)|(b))*;", `\1\2\3`, "zab;", "bab"},
		{"a(b?)c", `<\1>\\1`, "xxac", `<>\1`},
		{"(a+)b", `\1\1`, long + "b", long + long[:300]},
		{"(a+)b", `\1-\1`, long + "b", long + "-" + long[:299]},
		{"^((((((((((a))))))))))$", `\9\1`, "a", "aa"},
	} {
		p := program(1000, impl.State{Cases: []impl.Case{on(c.pattern, exit(3, c.template))}})
		checkRun(t, p, events(in(c.text), eof()), stops(0, 0, "", 3, leaving(matched(0, 0, -1, c.sent), 3)))
	}
}

func TestDialogWithAFullBuffer(t *testing.T) {
	quiet := program(3, impl.State{Cases: []impl.Case{on("abcd", goTo(0, "")), on("zz", goTo(0, "hit"))}})
	checkRun(t, quiet, events(in("ab")), waits(0, 0, "ab"))
	checkRun(t, quiet, events(tick(), in("abc")), waits(0, 1, ""))
	checkRun(t, quiet, events(in("abcd"), tick()), waits(0, 1, "d"))
	checkRun(t, quiet, events(in("abzz"), tick()), waits(0, 1, "z"))
	checkRun(t, quiet, events(in("azz")), waits(0, 0, "", matched(1, 0, 0, "hit")))
	checkRun(t, quiet, events(in("azza"), eof()), stops(0, 0, "a", 0, matched(1, 0, 0, "hit"), ended(0, 0)))

	loud := program(3,
		impl.State{Cases: []impl.Case{on("zz", goTo(0, "hit"))}, Full: true, OnFull: goTo(1, `F\\`), Timeout: 9, OnTimeout: goTo(0, "")},
		impl.State{Cases: []impl.Case{on("b|c", goTo(0, "late")), on("^d", goTo(1, "new"))}, Full: true, OnFull: exit(5, "end")})
	full := filledUp(0, 1, `F\`)
	// what was in the buffer is gone when the new state looks
	checkRun(t, loud, events(tick(), in("abc"), tick()), waits(1, 1, "", full))
	checkRun(t, loud, events(in("abcd")), waits(1, 0, "", full, matched(1, 1, 1, "new")))
	// a match at the very byte that fills it comes first
	checkRun(t, loud, events(tick(), in("azz")), waits(0, 0, "", matched(0, 0, 0, "hit")))
	checkRun(t, loud, events(in("abzxxxyyyy")), stops(1, 0, "", 5, full, leaving(filledUp(1, -1, "end"), 5)))
	checkRun(t, loud, events(in("abzxxbxxx")), waits(1, 0, "", full, matched(0, 1, 0, "late"), full))
	checkRun(t, loud, events(in("abz"), tick(), tick(), in("xxx"), tick()), stops(1, 2, "", 5, full, leaving(filledUp(1, -1, "end"), 5)))
}

func TestDialogWithABufferOfOneByte(t *testing.T) {
	p := program(1, impl.State{Cases: []impl.Case{on("a", goTo(0, "A")), on("bb", goTo(0, "B"))}, Full: true, OnFull: goTo(1, "F")},
		impl.State{Cases: []impl.Case{on("^b$", goTo(0, "E"))}})
	checkRun(t, p, events(in("aabbbb"), eof()), stops(1, 0, "", 0,
		matched(0, 0, 0, "A"), matched(0, 0, 0, "A"), filledUp(0, 1, "F"), ended(1, 0)))
}

func TestDialogWithTimeouts(t *testing.T) {
	p := program(20,
		impl.State{Cases: []impl.Case{on("never", goTo(0, ""))}, Timeout: 2, OnTimeout: goTo(1, "go")},
		impl.State{Cases: []impl.Case{on("(b|c)", goTo(2, `\1`))}, Timeout: 1, OnTimeout: goTo(1, "again")},
		impl.State{Cases: []impl.Case{on("^a", goTo(1, "front")), on("d", exit(8, `\0`))}, Timeout: 3, OnTimeout: exit(6, `\\`)})
	out := timedOut(0, 1, "go")
	// the new state looks at once at what came in before, and the states after it at the rest
	checkRun(t, p, events(in("xbac"), tick()), waits(0, 1, "xbac"))
	checkRun(t, p, events(in("xbac"), tick(), tick()), waits(2, 0, "", out, matched(0, 1, 2, "b"), matched(0, 2, 1, "front"), matched(0, 1, 2, "c")))
	checkRun(t, p, events(in("bxaxdx"), tick(), tick(), tick()), stops(2, 0, "x", 8, out, matched(0, 1, 2, "b"), leaving(matched(1, 2, -1, "d"), 8)))
	// what was looked at in vain stays, and the bytes that come later are joined to it; a match sets the ticks back
	checkRun(t, p, events(in("nev"), tick(), in("er"), tick()), waits(0, 1, "", matched(0, 0, 0, "")))
	checkRun(t, p, events(in("xa"), tick(), tick(), tick(), in("c")), waits(2, 0, "", out, timedOut(1, 1, "again"), matched(0, 1, 2, "c")))
}

func TestDialogTimesOut(t *testing.T) {
	own := program(9, impl.State{Cases: []impl.Case{on("ab", goTo(0, "hit"))}, Timeout: 2, OnTimeout: goTo(0, "T")})
	step := timedOut(0, 0, "T")
	checkRun(t, own, events(tick(), tick(), tick(), tick(), tick()), waits(0, 1, "", step, step))
	checkRun(t, own, events(in("xa"), tick(), tick(), tick(), in("b"), tick()), waits(0, 1, "", step, matched(0, 0, 0, "hit")))
	checkRun(t, own, events(tick(), in("a"), tick(), tick()), waits(0, 1, "a", step))

	none := program(9, impl.State{Cases: []impl.Case{on("a", goTo(1, ""))}}, impl.State{Timeout: 2, OnTimeout: exit(7, "bye")})
	checkRun(t, none, slices.Repeat(events(tick()), 50), waits(0, 50, ""))
	checkRun(t, none, events(tick(), tick(), in("ab"), tick()), waits(1, 1, "b", matched(0, 0, 1, "")))
	checkRun(t, none, events(in("ab"), tick(), in("c"), tick(), tick()), stops(1, 2, "bc", 7, matched(0, 0, 1, ""), leaving(timedOut(1, -1, "bye"), 7)))
}

func TestDialogWithAnchors(t *testing.T) {
	p := program(9,
		impl.State{Cases: []impl.Case{on("^ab", goTo(0, "1")), on("b$", goTo(1, "2")), on("^c$", exit(4, "3"))}, Eof: 5},
		impl.State{Cases: []impl.Case{on("d", goTo(1, "4")), on("(e)$|f$", goTo(0, `\1`))}, Timeout: 1, OnTimeout: goTo(0, "5"), Eof: 6})
	one, two := matched(0, 0, 0, "1"), matched(1, 0, 1, "2")
	checkRun(t, p, events(in("ababb")), waits(0, 0, "b", one, one))
	checkRun(t, p, events(in("ababb"), eof()), stops(1, 0, "", 6, one, one, two, ended(1, 6)))
	checkRun(t, p, events(in("xab"), tick()), waits(0, 1, "xab"))
	checkRun(t, p, events(in("xab"), tick(), eof()), stops(1, 0, "", 6, two, ended(1, 6)))
	checkRun(t, p, events(in("abc"), eof(), in("c")), stops(0, 0, "", 4, one, leaving(matched(2, 0, -1, "3"), 4)))
	checkRun(t, p, events(in("xc"), eof()), stops(0, 0, "xc", 5, ended(0, 5)))
	checkRun(t, p, events(eof()), stops(0, 0, "", 5, ended(0, 5)))
}

func TestDialogThatIsDone(t *testing.T) {
	p := program(4,
		impl.State{Cases: []impl.Case{on("go", goTo(1, "")), on("q", exit(2, `<\0>`))}, Timeout: 3, OnTimeout: exit(3, "t"), Eof: 9},
		impl.State{Full: true, OnFull: exit(4, "f"), Eof: 8})
	more := [][]impl.Event{{}, {tick()}, {eof()}, {in("go")}, {in("q"), tick(), tick(), tick(), eof(), eof()}, slices.Repeat(events(tick()), 99)}
	for _, c := range []struct {
		list []impl.Event
		want impl.Outcome
	}{
		{events(tick(), in("xqgo")), stops(0, 1, "", 2, leaving(matched(1, 0, -1, "<q>"), 2))},
		{events(in("ab"), tick(), tick(), tick()), stops(0, 3, "ab", 3, leaving(timedOut(0, -1, "t"), 3))},
		{events(in("goabcdefg")), stops(1, 0, "", 4, matched(0, 0, 1, ""), leaving(filledUp(1, -1, "f"), 4))},
		{events(in("goabc"), tick(), eof()), stops(1, 1, "abc", 8, matched(0, 0, 1, ""), ended(1, 8))},
	} {
		for _, rest := range more {
			checkRun(t, p, append(slices.Clone(c.list), rest...), c.want)
		}
	}
}

func TestDialogRefusals(t *testing.T) {
	p := program(impl.MaxLimit, impl.State{Cases: []impl.Case{on("b", exit(1, ""))}})
	bytes := strings.Repeat("a", impl.MaxInput)
	noisy := impl.Event{Kind: impl.EvTick, Data: bytes}
	for i, c := range []struct {
		list []impl.Event
		want impl.Outcome
	}{
		{slices.Repeat(events(tick()), impl.MaxEvents), waits(0, impl.MaxEvents, "")},
		{slices.Repeat(events(tick()), impl.MaxEvents+1), impl.Outcome{Code: impl.RunEvents}},
		{events(in(bytes)), waits(0, 0, bytes)},
		{events(in(bytes + "a")), impl.Outcome{Code: impl.RunEvents}},
		{events(in(bytes), in("a")), impl.Outcome{Code: impl.RunEvents}},
		{events(in(bytes[1:]), tick(), in(""), in("c")), waits(0, 1, bytes[1:]+"c")},
		{events(noisy, in(bytes), noisy), waits(0, 2, bytes)},
		{events(in("b"), in(bytes)), impl.Outcome{Code: impl.RunEvents}},
		{events(in("b"), impl.Event{}), impl.Outcome{Code: impl.RunEvents}},
		{events(impl.Event{Kind: 4}), impl.Outcome{Code: impl.RunEvents}},
		{events(impl.Event{Kind: -1}), impl.Outcome{Code: impl.RunEvents}},
		{events(impl.Event{Kind: impl.EvEof, Data: bytes + bytes}), stops(0, 0, "", 0, ended(0, 0))},
	} {
		if got := impl.RunDialog(p, c.list); !sameOutcome(got, c.want) {
			t.Errorf("%d: %d, %d steps", i, got.Code, len(got.Trace))
		}
	}
	for _, bad := range append(misshapen(), program(5, impl.State{Cases: []impl.Case{on("a*", goTo(0, ""))}})) {
		checkRun(t, bad, events(in("a")), impl.Outcome{Code: impl.RunCheck})
		checkRun(t, bad, events(impl.Event{Kind: 4}), impl.Outcome{Code: impl.RunCheck})
	}
}

// Every byte, every tick and the end of the input has a step of its own.
func TestDialogOfMostSteps(t *testing.T) {
	p := program(impl.MaxLimit, impl.State{Cases: []impl.Case{on("a", goTo(0, `\0`))}, Timeout: 1, OnTimeout: goTo(0, "t"), Eof: 9})
	list := events(in(strings.Repeat("a", impl.MaxInput)))
	steps := slices.Repeat([]impl.Step{matched(0, 0, 0, "a")}, impl.MaxInput)
	for range impl.MaxEvents - 2 {
		list = append(list, tick())
		steps = append(steps, timedOut(0, 0, "t"))
	}
	list = append(list, eof())
	steps = append(steps, ended(0, 9))
	if got := impl.RunDialog(p, list); !sameOutcome(got, stops(0, 0, "", 9, steps...)) {
		t.Error(got.Code, len(got.Trace), got.State, got.Ticks, got.Done, got.Exit)
	}
}

func TestDialogOfGreatestBuffers(t *testing.T) {
	bytes := strings.Repeat("ab", impl.MaxInput/2)
	single := []impl.Event{}
	for i := range len(bytes) {
		single = append(single, in(bytes[i:i+1]))
	}
	there, back := timedOut(0, 1, ""), timedOut(1, 0, "")
	idle := impl.State{Timeout: 1, OnTimeout: goTo(1, "")}
	for i, c := range []struct {
		p    impl.Program
		list []impl.Event
		want impl.Outcome
	}{
		{program(impl.MaxInput, impl.State{}), single, waits(0, 0, "")},
		{program(impl.MaxInput, impl.State{Full: true, OnFull: exit(1, "")}), single, stops(0, 0, "", 1, leaving(filledUp(0, -1, ""), 1))},
		{program(impl.MaxInput+1, impl.State{Full: true, OnFull: exit(1, "")}), single, waits(0, 0, bytes)},
		{
			program(impl.MaxLimit, idle, impl.State{Cases: []impl.Case{on("c", goTo(0, ""))}, Timeout: 1, OnTimeout: goTo(0, "")}),
			append(events(in(bytes)), slices.Repeat(events(tick()), impl.MaxEvents-2)...),
			waits(0, 0, bytes, slices.Repeat([]impl.Step{there, back}, impl.MaxEvents/2-1)...),
		},
		{
			program(impl.MaxLimit, idle, impl.State{Cases: []impl.Case{on("(b|a)", goTo(1, `\1`))}}), events(in(bytes), tick()),
			waits(1, 0, "", append([]impl.Step{there}, slices.Repeat([]impl.Step{matched(0, 1, 1, "a"), matched(0, 1, 1, "b")}, len(bytes)/2)...)...),
		},
		{
			program(impl.MaxLimit, impl.State{Cases: []impl.Case{on("^(a|b)*$", exit(2, `\0`))}}), append(events(in(bytes)), eof()),
			impl.Outcome{Code: impl.RunCheck},
		},
		{
			program(impl.MaxLimit, impl.State{Cases: []impl.Case{on("^(a|b)+$", exit(2, `\0`))}}), append(events(in(bytes)), eof()),
			stops(0, 0, "", 2, leaving(matched(0, 0, -1, bytes[:impl.MaxSend]), 2)),
		},
	} {
		if got := impl.RunDialog(c.p, c.list); !sameOutcome(got, c.want) {
			t.Error(i, got.Code, len(got.Trace), got.State, got.Ticks, len(got.Buf), got.Done, got.Exit)
		}
	}
}

// countPaid gives how many bytes and ticks there are.
func countPaid(list []impl.Event) int {
	paid := 0
	for _, e := range list {
		switch e.Kind {
		case impl.EvIn:
			paid += len(e.Data)
		case impl.EvTick:
			paid++
		}
	}
	return paid
}

func TestDialogAgainstSlowDialog(t *testing.T) {
	rnd := rand.New(rand.NewSource(55))
	causes := map[int]int{}
	for range 1500 {
		p := randomProgram(rnd)
		before := copyOf(p)
		for range 4 {
			list := randomEvents(rnd)
			given := slices.Clone(list)
			got, want := impl.RunDialog(p, list), slowRun(p, list)
			if !sameOutcome(got, want) {
				t.Fatalf("%+v with %+v:\n%+v, not\n%+v", p, list, got, want)
			}
			if !sameProgram(p, before) || !slices.Equal(list, given) {
				t.Fatal("an argument was written into")
			}
			if len(got.Trace) > countPaid(list)+1 {
				t.Fatalf("%+v with %+v: %d steps", p, list, len(got.Trace))
			}
			for _, s := range got.Trace {
				causes[s.Cause]++
			}
			checkRun(t, p, recut(rnd, list), want)
			checkRun(t, p, recut(rnd, list), want)
			if got.Done {
				checkRun(t, p, append(list, randomEvents(rnd)...), want)
			}
		}
	}
	for cause := impl.CauseMatch; cause <= impl.CauseEof; cause++ {
		if causes[cause] < 300 {
			t.Error("the dialogues hardly ever have", cause, causes)
		}
	}
}
