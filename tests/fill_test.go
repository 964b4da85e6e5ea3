package tests

import (
	"math/rand"
	"strings"
	"testing"

	"loop.example/s0007/impl"
)

func TestFill(t *testing.T) {
	spans := spansOf(0, 4, 1, 3, -1, -1, 3, 2, 2, 5, -1, 2, 4, 4, 0, 0, 5, 5, 2, 3)
	for _, c := range []struct{ template, want string }{
		{"", ""}, {"plain %20 text", "plain %20 text"}, {`<\1|\0>`, "<bc|abcd>"}, {`\\`, `\`}, {`\\\\`, `\\`}, {`\\1`, `\1`},
		{`\\\1`, `\bc`}, {`\10`, "bc0"}, {`\1\1`, "bcbc"}, {"\x00\xff\n", "\x00\xff\n"},
		// spans that aren't there, or lie wrongly
		{`[\2]`, "[]"}, {`[\3]`, "[]"}, {`[\4]`, "[]"}, {`[\5]`, "[]"}, {`[\6]`, "[]"}, {`[\7]`, "[]"}, {`[\8]`, "[]"}, {`[\9]`, "[c]"},
		// templates that aren't good
		{`\`, `\`}, {`a\`, `a\`}, {`\x`, `\x`}, {`\x\1`, `\xbc`}, {`\ \\\`, `\ \\`}, {`\:\/`, `\:\/`},
	} {
		if got := impl.Fill(c.template, "abcd", spans); got != c.want {
			t.Errorf("%q: %q, not %q", c.template, got, c.want)
		}
	}
	for _, none := range [][]impl.Pair{nil, {}, spansOf(0, 4)} {
		if got := impl.Fill(`<\1\9>`, "abcd", none); got != "<>" {
			t.Errorf("%v: %q", none, got)
		}
	}
}

func TestFillAtItsBounds(t *testing.T) {
	text := strings.Repeat("0123456789abcdef", impl.MaxText/16)
	whole := spansOf(0, len(text))
	for i, c := range []struct {
		template, text string
		want           string
	}{
		{strings.Repeat("x", impl.MaxTemplate), text, strings.Repeat("x", impl.MaxTemplate)},
		{strings.Repeat("x", impl.MaxTemplate+1), text, ""},
		{strings.Repeat(`\\`, impl.MaxTemplate/2), "", strings.Repeat(`\`, impl.MaxTemplate/2)},
		{`\0`, text, text[:impl.MaxSend]},
		{`<\0>`, text, "<" + text[:impl.MaxSend-1]},
		{strings.Repeat("x", impl.MaxTemplate-2) + `\0`, text, strings.Repeat("x", impl.MaxTemplate-2) + text[:2]},
		{`\0` + strings.Repeat("x", impl.MaxTemplate-2), text[:500], text[:500] + strings.Repeat("x", 500)},
		{`\0\0`, text[:500], text[:500] + text[:500]},
		{`\0\0\0`, text[:500], text[:500] + text[:500]},
		{`\0y`, text[:impl.MaxSend-1], text[:impl.MaxSend-1] + "y"},
		{`\0y`, text[:impl.MaxSend], text[:impl.MaxSend]},
		{`x`, text + "x", ""},
		{`\0`, text + "x", ""},
	} {
		spans := whole
		if len(c.text) < len(text) {
			spans = spansOf(0, len(c.text))
		}
		if got := impl.Fill(c.template, c.text, spans); got != c.want {
			t.Errorf("%d: %d bytes, not %d", i, len(got), len(c.want))
		}
	}
}

func TestFillAgainstSlowFill(t *testing.T) {
	rnd := rand.New(rand.NewSource(54))
	for range 5000 {
		template, text := randomText(rnd, `\\\\\\012349x`, 12), randomText(rnd, "abc\x00\xff", 6)
		spans := []impl.Pair{}
		for range rnd.Intn(12) {
			spans = append(spans, impl.Pair{Start: rnd.Intn(9) - 1, End: rnd.Intn(9) - 1})
		}
		if got, want := impl.Fill(template, text, spans), slowFill(template, text, spans); got != want {
			t.Fatalf("%q on %q with %v: %q, not %q", template, text, spans, got, want)
		}
	}
}
