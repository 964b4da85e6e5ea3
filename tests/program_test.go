package tests

// Promise 14, its first half: ParseProgram and ParseScript.

import (
	"math/rand"
	"slices"
	"strings"
	"testing"

	"loop.example/s0007/impl"
)

// wholeProgram has every kind of line, words of both forms, comments, empty lines, and no byte 10 at its end.
const wholeProgram = `# a program

limit 16 100
state 9
on =login:%20* 1 =bob%0A
#on =not 0 =here
timeout 10000 x255 =%00%FF%25
state 0
on =(fail|bad) x0 =

full 99999 =!~\\
on =%69d%3D([0-9]+); 1 =ok%20\1%0A
timeout 1 0 ==`

func TestProgramIsRead(t *testing.T) {
	p, code, line := impl.ParseProgram(wholeProgram)
	want := impl.Program{Limit: 16, Most: 100, States: []impl.State{
		{
			Cases:   []impl.Case{on("login: *", goTo(1, "bob\n"))},
			Timeout: 10000, OnTimeout: exit(255, "\x00\xff%"), Eof: 9,
		},
		{
			Cases:   []impl.Case{on("(fail|bad)", exit(0, "")), on("id=([0-9]+);", goTo(1, "ok \\1\n"))},
			Timeout: 1, OnTimeout: goTo(0, "="), Full: true, OnFull: goTo(99999, `!~\\`),
		},
	}}
	if code != impl.ProgOK || line != 0 || !sameProgram(p, want) {
		t.Errorf("%d at %d: %+v", code, line, p)
	}
}

func TestProgramFaults(t *testing.T) {
	const top = "limit 5 10\n"
	const one = top + "state 0\n"
	for _, c := range []struct {
		text       string
		code, line int
	}{
		// nothing to begin with
		{"", impl.ProgEmpty, 0}, {"\n", impl.ProgEmpty, 0}, {"# limit 5 10", impl.ProgEmpty, 0}, {top, impl.ProgEmpty, 0},
		{"limit 5 10", impl.ProgEmpty, 0},
		// another keyword
		{"foo", impl.ProgLine, 1}, {" limit 5 10", impl.ProgLine, 1}, {" ", impl.ProgLine, 1}, {" #", impl.ProgLine, 1},
		{"Limit 5 10", impl.ProgLine, 1}, {"limit", impl.ProgLine, 1}, {one + "in =a", impl.ProgLine, 3},
		{"limit\t5 10", impl.ProgLine, 1}, {one + "\x00", impl.ProgLine, 3}, {one + "=", impl.ProgLine, 3},
		// another number of fields
		{"limit 5", impl.ProgLine, 1}, {"limit 5 10 1", impl.ProgLine, 1}, {"limit 5 10 ", impl.ProgLine, 1},
		{"limit 5  10", impl.ProgLine, 1}, {"limit  5 10", impl.ProgLine, 1}, {top + "state", impl.ProgLine, 2},
		{top + "state 1 2", impl.ProgLine, 2}, {top + "state ", impl.ProgLine, 2}, {one + "on =a 0", impl.ProgLine, 3},
		{one + "on =a 0 = =", impl.ProgLine, 3}, {one + "on", impl.ProgLine, 3}, {one + "on =a  0 =", impl.ProgLine, 3},
		{one + "timeout 1 0", impl.ProgLine, 3}, {one + "timeout 1 0 = ", impl.ProgLine, 3}, {one + "full 0", impl.ProgLine, 3},
		{one + "full 0 = =", impl.ProgLine, 3}, {one + "full", impl.ProgLine, 3}, {one + "timeout", impl.ProgLine, 3},
		// numbers
		{"limit 0 10", impl.ProgLine, 1}, {"limit 4097 10", impl.ProgLine, 1}, {"limit 5 0", impl.ProgLine, 1},
		{"limit 5 4001", impl.ProgLine, 1}, {"limit 05 10", impl.ProgLine, 1}, {"limit 5 010", impl.ProgLine, 1},
		{"limit +5 10", impl.ProgLine, 1}, {"limit -5 10", impl.ProgLine, 1}, {"limit 5a 10", impl.ProgLine, 1},
		{"limit 5 10\r", impl.ProgLine, 1}, {"limit 000005 10", impl.ProgLine, 1}, {"limit 100000 10", impl.ProgLine, 1},
		{"limit x5 10", impl.ProgLine, 1}, {"limit 0x5 10", impl.ProgLine, 1}, {"limit =5 10", impl.ProgLine, 1},
		{"limit 5 18446744073709551617", impl.ProgLine, 1}, {"limit 5 1_0", impl.ProgLine, 1},
		{top + "state 256", impl.ProgLine, 2}, {top + "state -1", impl.ProgLine, 2}, {top + "state 00", impl.ProgLine, 2},
		{top + "state x1", impl.ProgLine, 2}, {one + "timeout 0 0 =", impl.ProgLine, 3},
		{one + "timeout 10001 0 =", impl.ProgLine, 3}, {one + "timeout 01 0 =", impl.ProgLine, 3},
		// targets
		{one + "on =a x256 =", impl.ProgLine, 3}, {one + "on =a x01 =", impl.ProgLine, 3}, {one + "on =a x =", impl.ProgLine, 3},
		{one + "on =a X1 =", impl.ProgLine, 3}, {one + "on =a 100000 =", impl.ProgLine, 3}, {one + "on =a -1 =", impl.ProgLine, 3},
		{one + "on =a xx1 =", impl.ProgLine, 3}, {one + "on =a 00 =", impl.ProgLine, 3}, {one + "on =a x-1 =", impl.ProgLine, 3},
		{one + "full x256 =", impl.ProgLine, 3}, {one + "timeout 1 x256 =", impl.ProgLine, 3}, {one + "full 1x =", impl.ProgLine, 3},
		// words
		{one + "on a 0 =", impl.ProgLine, 3}, {one + "on =a 0 b", impl.ProgLine, 3}, {one + "on =a 0 ", impl.ProgLine, 3},
		{one + "on =% 0 =", impl.ProgLine, 3}, {one + "on =%4 0 =", impl.ProgLine, 3}, {one + "on =%4a 0 =", impl.ProgLine, 3},
		{one + "on =%G0 0 =", impl.ProgLine, 3}, {one + "on =a\t 0 =", impl.ProgLine, 3}, {one + "on =\x7f 0 =", impl.ProgLine, 3},
		{one + "on =\x80 0 =", impl.ProgLine, 3}, {one + "full 0 =%%", impl.ProgLine, 3}, {one + "full 0 =%a0", impl.ProgLine, 3},
		{one + "timeout 1 0 =a\xff", impl.ProgLine, 3}, {one + "full 0 =%2", impl.ProgLine, 3}, {one + "full 0 =\r", impl.ProgLine, 3},
		{one + "full 0 =%+1", impl.ProgLine, 3},
		// the order of the lines
		{"state 1", impl.ProgOrder, 1}, {"on =a 0 =", impl.ProgOrder, 1}, {"timeout 1 0 =", impl.ProgOrder, 1},
		{"full 0 =", impl.ProgOrder, 1}, {top + "limit 5 10", impl.ProgOrder, 2}, {one + "limit 6 11", impl.ProgOrder, 3},
		{top + "on =a 0 =", impl.ProgOrder, 2}, {top + "timeout 1 0 =", impl.ProgOrder, 2}, {top + "full 0 =", impl.ProgOrder, 2},
		{one + "timeout 1 0 =\ntimeout 2 0 =", impl.ProgOrder, 4}, {one + "full 0 =\non =a 0 =\nfull 0 =", impl.ProgOrder, 5},
		{one + "timeout 1 0 =\non =a 0 =\n\n#\ntimeout 2 0 =", impl.ProgOrder, 7},
		// two faults in one line, and in two
		{top + "limit 0 10", impl.ProgLine, 2}, {"state 256", impl.ProgLine, 1}, {"on =a x256 =", impl.ProgLine, 1},
		{one + "full 0 =\nfull 0", impl.ProgLine, 4}, {one + "timeout 1 0 =\ntimeout 0 0 =", impl.ProgLine, 4},
		{"state 1\nfoo", impl.ProgOrder, 1}, {"foo\nstate 1", impl.ProgLine, 1}, {top + "foo\n" + top, impl.ProgLine, 2},
	} {
		p, code, line := impl.ParseProgram(c.text)
		if code != c.code || line != c.line || !sameProgram(p, impl.Program{}) {
			t.Errorf("%q: %d at %d, not %d at %d: %+v", c.text, code, line, c.code, c.line, p)
		}
	}
}

func TestProgramThatIsNotLookedAtClosely(t *testing.T) {
	const one = "limit 5 10\nstate 0\n"
	for _, text := range []string{
		one + "on =( 0 =", one + "on = 7 =", one + "on =a 99999 =\\", one + "timeout 1 9 =\\0", one + "full 3 =\\9\n",
		one + "on =a 0 =" + strings.Repeat("b", impl.MaxTemplate+1), one + "on =" + strings.Repeat("a", impl.MaxPattern+1) + " 0 =",
		"limit 1 1\nstate 255", "limit 4096 4000\nstate 0", one + "timeout 1 0 =\nstate 0\ntimeout 1 0 =\nfull 0 =\nstate 0\nfull 0 =",
		"\n\n" + one + "\n#\n##", "#limit 5\n" + one,
	} {
		want, _, _ := slowProgram(text)
		p, code, line := impl.ParseProgram(text)
		if code != impl.ProgOK || line != 0 || len(p.States) == 0 || !sameProgram(p, want) {
			t.Errorf("%q: %d at %d: %+v", text, code, line, p)
		}
	}
}

func TestProgramOfGreatestSize(t *testing.T) {
	const one = "limit 5 10\nstate 0\n"
	padding := func(bytes int) string { return "#" + strings.Repeat(" ", bytes-1) }
	states := func(n int) string { return "limit 5 10\n" + strings.Repeat("state 0\n", n) }
	cases := func(n int) string { return "state 0\n" + strings.Repeat("on =a 0 =\n", n) }
	for i, c := range []struct {
		text               string
		code, line, states int
	}{
		{one + padding(impl.MaxProgram-len(one)), impl.ProgOK, 0, 1},
		{one + padding(impl.MaxProgram-len(one)+1), impl.ProgLong, 0, 0},
		{"foo" + padding(impl.MaxProgram), impl.ProgLong, 0, 0},
		{padding(impl.MaxProgram), impl.ProgEmpty, 0, 0},
		{states(impl.MaxDialog), impl.ProgOK, 0, impl.MaxDialog},
		{states(impl.MaxDialog + 1), impl.ProgMany, impl.MaxDialog + 2, 0},
		{states(impl.MaxDialog) + "state 256", impl.ProgLine, impl.MaxDialog + 2, 0},
		{states(impl.MaxDialog) + "limit 5 10", impl.ProgOrder, impl.MaxDialog + 2, 0},
		{"limit 5 10\n" + cases(impl.MaxRules) + cases(impl.MaxRules), impl.ProgOK, 0, 2},
		{"limit 5 10\n" + cases(impl.MaxRules+1), impl.ProgMany, impl.MaxRules + 3, 0},
		{"limit 5 10\n" + cases(1) + cases(impl.MaxRules) + "#\n\non =( x9 =", impl.ProgMany, impl.MaxRules + 7, 0},
		{"limit 5 10\n" + cases(impl.MaxRules) + "on =a x256 =", impl.ProgLine, impl.MaxRules + 3, 0},
		{"limit 5 10\n" + cases(impl.MaxRules) + "timeout 1 0 =\nfull 0 =", impl.ProgOK, 0, 1},
	} {
		p, code, line := impl.ParseProgram(c.text)
		if code != c.code || line != c.line || len(p.States) != c.states {
			t.Errorf("%d: %d at %d with %d states", i, code, line, len(p.States))
		}
	}
}

func TestScriptIsRead(t *testing.T) {
	got, code, line := impl.ParseScript("# s\nin =a%20%00%FFb\n\ntick\neof\nin =\n#\ntick\nin =%%25==")
	if code != impl.ScriptLine || line != 9 || len(got) != 0 {
		t.Error(got, code, line)
	}
	got, code, line = impl.ParseScript("# s\nin =a%20%00%FFb\n\ntick\neof\nin =\n#\ntick\nin =%25==")
	want := events(in("a \x00\xffb"), tick(), eof(), in(""), tick(), in("%=="))
	if code != impl.ScriptOK || line != 0 || !slices.Equal(got, want) {
		t.Error(got, code, line)
	}
	for _, text := range []string{"", "\n", "#", "\n\n# in =a\n"} {
		if got, code, line := impl.ParseScript(text); len(got) != 0 || code != impl.ScriptOK || line != 0 {
			t.Errorf("%q: %d at %d", text, code, line)
		}
	}
}

func TestScriptFaults(t *testing.T) {
	for _, text := range []string{
		"tick ", " tick", "tick =", "tick 1", "eof ", "eof =", "in", "in ", "in a", "in =a b", "in =a ", "in  =a", "in =a =b", "in =%", "in =%4",
		"in =%4a", "in =%g0", "in =a\tb", "in =\x80", "in =\x7f", "foo", "Tick", "in\t=a", "tick\r", "state 0", " ", " #", "=", "tickeof", "x\x00",
	} {
		for _, before := range []string{"", "tick\n", "\n#\nin =a\n\n"} {
			got, code, line := impl.ParseScript(before + text + "\nfoo\n")
			if code != impl.ScriptLine || line != 1+strings.Count(before, "\n") || len(got) != 0 {
				t.Errorf("%q: %d at %d", before+text, code, line)
			}
		}
	}
}

func TestScriptOfGreatestSize(t *testing.T) {
	ends := func(n int) string { return strings.Repeat("eof\n", n) }
	for i, c := range []struct {
		text               string
		code, line, events int
	}{
		{strings.Repeat("tick\n", impl.MaxEvents), impl.ScriptOK, 0, impl.MaxEvents},
		{strings.Repeat("tick\n", impl.MaxEvents) + "\n", impl.ScriptLong, 0, 0},
		{"in =" + strings.Repeat("a", impl.MaxScript-4), impl.ScriptOK, 0, 1},
		{"in =" + strings.Repeat("a", impl.MaxScript-3), impl.ScriptLong, 0, 0},
		{"foo\n" + strings.Repeat("a", impl.MaxScript), impl.ScriptLong, 0, 0},
		{ends(impl.MaxEvents) + "\n#\n", impl.ScriptOK, 0, impl.MaxEvents},
		{ends(impl.MaxEvents + 1), impl.ScriptMany, impl.MaxEvents + 1, 0},
		{ends(impl.MaxEvents) + "\n#\nin =a\nfoo", impl.ScriptMany, impl.MaxEvents + 3, 0},
		{ends(impl.MaxEvents) + "in =%", impl.ScriptLine, impl.MaxEvents + 1, 0},
		{ends(impl.MaxEvents) + "tick 1\ntick", impl.ScriptLine, impl.MaxEvents + 1, 0},
	} {
		got, code, line := impl.ParseScript(c.text)
		if code != c.code || line != c.line || len(got) != c.events {
			t.Errorf("%d: %d at %d with %d events", i, code, line, len(got))
		}
	}
}

func TestEveryByteOfAWord(t *testing.T) {
	for c := range 256 {
		raw := string([]byte{byte(c)})
		plain := c >= 33 && c <= 126 && c != '%'
		got, code, _ := impl.ParseScript("in =a" + raw)
		if c == '\n' { // it ends the line instead
			plain = true
			raw = ""
		}
		if (code == impl.ScriptOK) != plain || plain && !slices.Equal(got, events(in("a"+raw))) {
			t.Errorf("byte %d for itself: %d, %v", c, code, got)
		}
		raw = string([]byte{byte(c)})
		const digits = "0123456789ABCDEF"
		got, code, _ = impl.ParseScript("in =%" + digits[c/16:c/16+1] + digits[c%16:c%16+1])
		if code != impl.ScriptOK || !slices.Equal(got, events(in(raw))) {
			t.Errorf("byte %d in two digits: %d, %v", c, code, got)
		}
	}
}

// spoiled changes a text in a few places.
func spoiled(rnd *rand.Rand, text string) string {
	for range rnd.Intn(4) {
		at := rnd.Intn(len(text) + 1)
		end := min(len(text), at+rnd.Intn(3))
		scraps := []string{"", " ", "\n", "=", "%", "x", "0", "9", "#", "\x00", "\xff", "a", "limit 5 9\n", "state 1\n", "tick\n", "full 0 =\n", "timeout 2 x3 =\n"}
		text = text[:at] + scraps[rnd.Intn(len(scraps))] + text[end:]
	}
	return text
}

func TestTextsAgainstSlowReaders(t *testing.T) {
	rnd := rand.New(rand.NewSource(51))
	codes := map[int]int{}
	for range 6000 {
		text := spoiled(rnd, programText(rnd, randomProgram(rnd)))
		p, code, line := impl.ParseProgram(text)
		wantP, wantCode, wantLine := slowProgram(text)
		if code != wantCode || line != wantLine || !sameProgram(p, wantP) {
			t.Fatalf("%q: %d at %d, not %d at %d: %+v", text, code, line, wantCode, wantLine, p)
		}
		codes[code]++
		text = spoiled(rnd, scriptText(rnd, randomEvents(rnd)))
		list, code, line := impl.ParseScript(text)
		wantList, wantCode, wantLine := slowEvents(text)
		if code != wantCode || line != wantLine || !slices.Equal(list, wantList) {
			t.Fatalf("%q: %d at %d, not %d at %d: %+v", text, code, line, wantCode, wantLine, list)
		}
		codes[10+code]++
	}
	for _, code := range []int{impl.ProgOK, impl.ProgLine, impl.ProgOrder, 10 + impl.ScriptOK, 10 + impl.ScriptLine} {
		if codes[code] < 100 {
			t.Error("the texts hardly ever give", code)
		}
	}
}

func TestAnyBytesAreAnswered(t *testing.T) {
	rnd := rand.New(rand.NewSource(52))
	for range 3000 {
		text := randomText(rnd, "limtsaeonuf 019x=%A#\n\n \x00\xff", 60)
		_, code, line := impl.ParseProgram(text)
		if _, wantCode, wantLine := slowProgram(text); code != wantCode || line != wantLine {
			t.Fatalf("%q: %d at %d, not %d at %d", text, code, line, wantCode, wantLine)
		}
		_, code, line = impl.ParseScript(text)
		if _, wantCode, wantLine := slowEvents(text); code != wantCode || line != wantLine {
			t.Fatalf("%q: %d at %d, not %d at %d", text, code, line, wantCode, wantLine)
		}
	}
}
