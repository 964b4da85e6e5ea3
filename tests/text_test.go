package tests

// Promise 17: RunText.

import (
	"fmt"
	"math/rand"
	"strings"
	"testing"

	"loop.example/s0007/impl"
)

const loginText = `limit 16 100
state 9
on =login:%20* 1 =bob%0A
state 3
on =(fail|bad) x1 =
on =id=([0-9]+); 1 =ok%20\1%0A
timeout 2 x4 =bye
`

func TestTextOfTheExample(t *testing.T) {
	got := impl.RunText(loginText, "in =login:%20id=\nin =42;\ntick\ntick\n")
	if want := "match 0 1 0 =bob%0A\nmatch 1 1 1 =ok%2042%0A\ntimeout 1 x4 0 =bye\ndone 4\n"; got != want {
		t.Errorf("%q", got)
	}
}

func TestTextOfEveryKindOfLine(t *testing.T) {
	const every = "limit 4 50\nstate 200\non =(a).b 1 =%25\\1%7F\\\\\ntimeout 12 0 =~!\nfull 0 =%FF\nstate 7\non =.$ x0 =\\0\n"
	for _, c := range []struct{ script, want string }{
		{"", "wait 0 0 =\n"},
		{"in =a%00", "wait 0 0 =a%00\n"},
		{"in =%20%25%7E%7F%21\ntick", "full 0 0 0 =%FF\nwait 0 1 =!\n"},
		{"in =a%09\nin =b", "match 0 1 0 =%25a%7F\\\nwait 1 0 =\n"},
		{"in =a%09b%FE\neof\nfoo", "script 2 3\n"},
		{"in =a%09b%FE\neof", "match 0 1 0 =%25a%7F\\\nmatch 1 x0 0 =%FE\ndone 0\n"},
		{"eof\ntick", "eof 0 x200 0 =\ndone 200\n"},
		{"in =a%09b\neof\n", "match 0 1 0 =%25a%7F\\\neof 1 x7 0 =\ndone 7\n"},
		{strings.Repeat("tick\n", 12) + "in =abcd\ntick", "timeout 0 0 0 =~!\nfull 0 0 0 =%FF\nwait 0 1 =\n"},
		{strings.Repeat("tick\n", 11) + "in =~", "wait 0 11 =~\n"},
	} {
		if got := impl.RunText(every, c.script); got != c.want {
			t.Errorf("%q: %q, not %q", c.script, got, c.want)
		}
	}
}

func TestTextOfFaults(t *testing.T) {
	const good, empty, broken = "limit 5 50\nstate 1\n", "limit 5 50\nstate 1\non =a 0 =\non =a* 0 =\n", "limit 5 50\nfoo\n"
	many := "in =" + strings.Repeat("a", impl.MaxInput)
	for i, c := range []struct{ program, script, want string }{
		{"", "", "program 5 0\n"},
		{strings.Repeat("\n", impl.MaxProgram+1), "", "program 1 0\n"},
		{broken, "foo", "program 2 2\n"},
		{"state 1", "", "program 3 1\n"},
		{good + strings.Repeat("state 1\n", impl.MaxDialog), "", "program 4 202\n"},
		{empty, "foo", "check 3 0 1\n"},
		{empty, many + "a", "check 3 0 1\n"},
		{good + "state 1\non =( 0 =", "", "check 2 1 0\n"},
		{good + "timeout 1 1 =", "", "check 4 0 0\n"},
		{good + "on =a 0 =\nfull 0 =\\0", "", "check 5 0 2\n"},
		{"limit 5 1\nstate 1", "", "check 6 0 2\n"},
		{good + "on =a 0 =" + strings.Repeat("b", impl.MaxTemplate+1), "", "check 1 0 0\n"},
		{good, "foo", "script 2 1\n"},
		{good, strings.Repeat("\n", impl.MaxScript+1), "script 1 0\n"},
		{good, strings.Repeat("eof\n", impl.MaxEvents+1), "script 3 4001\n"},
		{good, many + "a\nfoo", "script 2 2\n"},
		{good, many + "a", "events\n"},
		{good, "eof\n" + many + "\nin =a", "events\n"},
		{good, many, "wait 0 0 =\n"},
		{good, strings.Repeat("eof\n", impl.MaxEvents), "eof 0 x1 0 =\ndone 1\n"},
	} {
		if got := impl.RunText(c.program, c.script); got != c.want {
			t.Errorf("%d: %q, not %q", i, got, c.want)
		}
	}
}

// slowText is RunText by the words of 5.7.
func slowText(program, script string) string {
	p, code, line := slowProgram(program)
	if code != 0 {
		return fmt.Sprintf("program %d %d\n", code, line)
	}
	if code, state, item := slowCheck(p); code != 0 {
		return fmt.Sprintf("check %d %d %d\n", code, state, item)
	}
	list, code, line := slowEvents(script)
	if code != 0 {
		return fmt.Sprintf("script %d %d\n", code, line)
	}
	return outcomeLines(slowRun(p, list))
}

func TestTextAgainstSlowText(t *testing.T) {
	rnd := rand.New(rand.NewSource(56))
	kinds := map[string]int{}
	for range 3000 {
		p := randomProgram(rnd)
		if rnd.Intn(5) == 0 {
			spoil(rnd, &p)
		}
		program, script := programText(rnd, p), scriptText(rnd, randomEvents(rnd))
		if rnd.Intn(5) == 0 {
			program, script = spoiled(rnd, program), spoiled(rnd, script)
		}
		got, want := impl.RunText(program, script), slowText(program, script)
		if got != want {
			t.Fatalf("%q with %q: %q, not %q", program, script, got, want)
		}
		for line := range strings.Lines(got) {
			kind, _, _ := strings.Cut(line, " ")
			kinds[kind]++
		}
	}
	for _, kind := range strings.Fields("program check script match timeout full eof done wait") {
		if kinds[kind] < 50 {
			t.Error("the texts hardly ever give", kind, kinds)
		}
	}
}

func TestTextOfAnyBytes(t *testing.T) {
	rnd := rand.New(rand.NewSource(57))
	for range 2000 {
		program := randomText(rnd, "limtsaeonuf 019x=%A#\n\n \x00\xff", 40)
		if rnd.Intn(2) == 0 {
			program = "limit 3 40\nstate 2\n" + program
		}
		script := randomText(rnd, "intckeof =%A0\n\n\xff", 20)
		if got, want := impl.RunText(program, script), slowText(program, script); got != want {
			t.Fatalf("%q with %q: %q, not %q", program, script, got, want)
		}
	}
}
