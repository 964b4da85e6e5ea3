package tests

// Promise 1: ParseERE answers at every string, with the first fault in the order of 1.2.

import (
	"math/rand"
	"slices"
	"strings"
	"testing"

	"loop.example/s0007/impl"
)

func TestConstantsOfPatterns(t *testing.T) {
	got := []int{impl.MaxPattern, impl.MaxWeight, impl.MaxGroups, impl.MaxCount, impl.MaxNodes, impl.MaxText,
		impl.KindSet, impl.KindSeq, impl.KindAlt, impl.KindRepeat, impl.KindGroup,
		impl.ErrNone, impl.ErrLong, impl.ErrEscape, impl.ErrBracket, impl.ErrInterval, impl.ErrAnchor, impl.ErrOperand,
		impl.ErrClose, impl.ErrOpen, impl.ErrGroups, impl.ErrWeight}
	want := []int{2000, 2000, 500, 255, 5000, 4096, 1, 2, 3, 4, 5, 0, 1, 2, 3, 4, 5, 6, 7, 8, 9, 10}
	if !slices.Equal(got, want) {
		t.Error(got)
	}
}

func wantFault(t *testing.T, pattern string, code, at int) {
	t.Helper()
	r, gotCode, gotAt := impl.ParseERE(pattern)
	if gotCode != code || gotAt != at || len(r.Branches) != 0 || r.Groups != 0 {
		if len(pattern) > 60 {
			pattern = pattern[:60] + ".."
		}
		t.Errorf("%q gives %d at %d, and %d branches; want %d at %d", pattern, gotCode, gotAt, len(r.Branches), code, at)
	}
}

func TestFaultsOfTokens(t *testing.T) {
	cases := []struct {
		pattern  string
		code, at int
	}{
		{`\`, impl.ErrEscape, 0}, {`ab\`, impl.ErrEscape, 2}, {`a\n`, impl.ErrEscape, 1}, {`\-`, impl.ErrEscape, 0},
		{`\\\`, impl.ErrEscape, 2}, {"\\\x00", impl.ErrEscape, 0}, {`\/`, impl.ErrEscape, 0},
		{"a{", impl.ErrInterval, 1}, {"a{}", impl.ErrInterval, 1}, {"a{,}", impl.ErrInterval, 1}, {"a{,3}", impl.ErrInterval, 1},
		{"a{1", impl.ErrInterval, 1}, {"a{1,", impl.ErrInterval, 1}, {"a{1,2", impl.ErrInterval, 1}, {"a{ 1}", impl.ErrInterval, 1},
		{"a{1,2,3}", impl.ErrInterval, 1}, {"a{-1}", impl.ErrInterval, 1}, {"a{+1}", impl.ErrInterval, 1}, {"a{1x}", impl.ErrInterval, 1},
		{"a{2,1}", impl.ErrInterval, 1}, {"a{0001}", impl.ErrInterval, 1}, {"a{1,0002}", impl.ErrInterval, 1},
		{"a{256}", impl.ErrInterval, 1}, {"a{256,}", impl.ErrInterval, 1}, {"a{1,256}", impl.ErrInterval, 1}, {"a{999}", impl.ErrInterval, 1},
		{"a{1a}b{2}", impl.ErrInterval, 1}, {"a{1}b{x}", impl.ErrInterval, 5},
		{"[", impl.ErrBracket, 0}, {"[]", impl.ErrBracket, 0}, {"[^", impl.ErrBracket, 0}, {"[^]", impl.ErrBracket, 0},
		{"x[a", impl.ErrBracket, 1}, {"x[a-", impl.ErrBracket, 1}, {"x[a-b", impl.ErrBracket, 1}, {"[b-a]", impl.ErrBracket, 0},
		{"[[.a.]]", impl.ErrBracket, 0}, {"[[=a=]]", impl.ErrBracket, 0}, {"[a[.", impl.ErrBracket, 0}, {"[[:", impl.ErrBracket, 0},
		{"[[:]]", impl.ErrBracket, 0}, {"[[::]]", impl.ErrBracket, 0}, {"[[:Alpha:]]", impl.ErrBracket, 0}, {"[[:alpha:]", impl.ErrBracket, 0},
		{"[[:alpha]]", impl.ErrBracket, 0}, {"[[:cntrl:]]", impl.ErrBracket, 0}, {"[[:alpha :]]", impl.ErrBracket, 0},
		{"[+-[:digit:]]", impl.ErrBracket, 0}, {"[+-[.a.]]", impl.ErrBracket, 0}, {"[+-[=a=]]", impl.ErrBracket, 0},
		{"[xb-a]", impl.ErrBracket, 0}, {"[b-ax]", impl.ErrBracket, 0}, {"[^b-a]x]", impl.ErrBracket, 0},
		{"[x[=a=]]", impl.ErrBracket, 0}, {"[x[:alpha]x]", impl.ErrBracket, 0}, {"[x[:alpha", impl.ErrBracket, 0}, {"[a-[]", impl.ErrBracket, 0}, {"[a--]", impl.ErrBracket, 0}, {"[\xff-\xfe]", impl.ErrBracket, 0},
	}
	for _, c := range cases {
		wantFault(t, c.pattern, c.code, c.at)
	}
}

func TestFaultsOfOrder(t *testing.T) {
	cases := []struct {
		pattern  string
		code, at int
	}{
		{"", impl.ErrOperand, 0}, {"a**", impl.ErrOperand, 2}, {"a+{2}", impl.ErrOperand, 2}, {"()", impl.ErrOperand, 1},
		{"a||b", impl.ErrOperand, 2}, {"|", impl.ErrOperand, 0}, {"a|", impl.ErrOperand, 2}, {"(|a)", impl.ErrOperand, 1},
		{"(a|)", impl.ErrOperand, 3}, {"*", impl.ErrOperand, 0}, {"{2}", impl.ErrOperand, 0}, {"(*a)", impl.ErrOperand, 1},
		{"a|*", impl.ErrOperand, 2}, {"^*", impl.ErrOperand, 1}, {"^", impl.ErrOperand, 1}, {"^$", impl.ErrOperand, 1}, {"$", impl.ErrOperand, 0},
		{"a|$", impl.ErrOperand, 2}, {"a|^", impl.ErrOperand, 3}, {"^|a", impl.ErrOperand, 1}, {"(", impl.ErrOperand, 1}, {"(a(", impl.ErrOperand, 3},
		{"((a|", impl.ErrOperand, 4}, {"$|a", impl.ErrOperand, 0}, {"[x]|", impl.ErrOperand, 4},
		{"(^a)", impl.ErrAnchor, 1}, {"a^", impl.ErrAnchor, 1}, {"^^a", impl.ErrAnchor, 1}, {"a|b^", impl.ErrAnchor, 3},
		{"(a|^b)", impl.ErrAnchor, 3}, {"(a$)", impl.ErrAnchor, 2}, {"a$b", impl.ErrAnchor, 1}, {"a$$", impl.ErrAnchor, 1}, {"a$*", impl.ErrAnchor, 1},
		{"$a", impl.ErrAnchor, 0}, {"($)", impl.ErrAnchor, 1}, {"(a$|b)", impl.ErrAnchor, 2}, {"a*^", impl.ErrAnchor, 2},
		{")", impl.ErrClose, 0}, {"a)", impl.ErrClose, 1}, {"(a))", impl.ErrClose, 3}, {"a|)", impl.ErrClose, 2}, {"^)", impl.ErrClose, 1},
		{"(a", impl.ErrOpen, 0}, {"((a)", impl.ErrOpen, 0}, {"(a(b", impl.ErrOpen, 2}, {"(a(b)c(d", impl.ErrOpen, 6}, {"x(a*", impl.ErrOpen, 1},
		{"(a|b", impl.ErrOpen, 0},
	}
	for _, c := range cases {
		wantFault(t, c.pattern, c.code, c.at)
	}
}

func TestOrderOfTheRefusals(t *testing.T) {
	long := strings.Repeat("a", impl.MaxPattern)
	wantFault(t, "["+long, impl.ErrLong, impl.MaxPattern)
	wantFault(t, "(*[z", impl.ErrBracket, 2)
	wantFault(t, `)(\n`, impl.ErrEscape, 2)
	wantFault(t, `a**{`, impl.ErrInterval, 3)
	wantFault(t, `{x[`, impl.ErrInterval, 0)
	wantFault(t, `[{x`, impl.ErrBracket, 0)
	wantFault(t, `(a{255}){255})`, impl.ErrClose, 13)
	wantFault(t, strings.Repeat("(a)", impl.MaxGroups)+"*(a)**", impl.ErrGroups, 3*impl.MaxGroups+1)
	wantFault(t, strings.Repeat("(a)", impl.MaxGroups)+"**(a)", impl.ErrOperand, 3*impl.MaxGroups+1)
	wantFault(t, strings.Repeat("(", impl.MaxGroups+1), impl.ErrGroups, impl.MaxGroups)
}

func TestBoundsOfPatterns(t *testing.T) {
	parsed(t, strings.Repeat("a", impl.MaxPattern))
	wantFault(t, strings.Repeat("a", impl.MaxPattern+1), impl.ErrLong, impl.MaxPattern)
	wantFault(t, strings.Repeat("(", impl.MaxPattern+500), impl.ErrLong, impl.MaxPattern)
	r := parsed(t, strings.Repeat("(a)", impl.MaxGroups))
	if r.Groups != impl.MaxGroups {
		t.Error(r.Groups, "groups")
	}
	deep := strings.Repeat("(", impl.MaxGroups) + "a" + strings.Repeat(")", impl.MaxGroups)
	if r := parsed(t, deep); r.Groups != impl.MaxGroups {
		t.Error(r.Groups, "groups")
	}
	wantFault(t, strings.Repeat("(a)", impl.MaxGroups+1), impl.ErrGroups, 3*impl.MaxGroups)
	for _, p := range []string{"a{255}", "a{0,255}", "a{255,}", "a{255,255}", "a{000}", "a{007,010}"} {
		parsed(t, p)
	}
}

func TestBoundsOfWeight(t *testing.T) {
	for _, p := range []string{
		"(a{50}){40}", "((a{50}){39,})", "(a{50}){39}a{50}", "(a{0,50}){0,40}", "((a{0}){200}){10}", "(a{50}){20}|(a{50}){20}",
		"((a{0}){0}){0}", "((a*){200}){10}", "((a?){200}){10}", "((a+){100}){10}", "((a{255}){7}){0}",
	} {
		parsed(t, p)
	}
	for _, p := range []string{
		"(a{50}){40}a", "((a{50}){40,})", "(a{50}){40}|a", "((a{0}){255}){255}", "((a{0}){200}){10}a", "((a{250}){8,}){0}",
		"(a+|b){100}(c{200}){9}d", strings.Repeat("(", 200) + "a" + strings.Repeat("{255})", 200),
		strings.Repeat("(", 200) + "a" + strings.Repeat("{0,64})", 200),
	} {
		wantFault(t, p, impl.ErrWeight, 0)
	}
}

// orderByWords looks at each token with fresh eyes: every token of the pattern is one byte.
func orderByWords(p string) (int, int) {
	has := func(s string, i int) bool { return i >= 0 && i < len(p) && strings.IndexByte(s, p[i]) >= 0 }
	opening := func(i int) bool { return i == 0 || has("(|^", i-1) }
	for i := range p {
		depth := strings.Count(p[:i], "(") - strings.Count(p[:i], ")")
		switch {
		case has(")", i) && depth < 1:
			return impl.ErrClose, i
		case has("^", i) && (depth != 0 || i != 0 && !has("|", i-1)):
			return impl.ErrAnchor, i
		case has("$", i) && (depth != 0 || i+1 != len(p) && !has("|", i+1)):
			return impl.ErrAnchor, i
		case has(")|$", i) && opening(i), has("*", i) && !has("a)", i-1):
			return impl.ErrOperand, i
		}
	}
	if opening(len(p)) {
		return impl.ErrOperand, len(p)
	}
	depth := 0
	for i := len(p) - 1; i >= 0; i-- {
		depth += strings.Count(p[i:i+1], ")") - strings.Count(p[i:i+1], "(")
		if depth < 0 {
			return impl.ErrOpen, i
		}
	}
	return impl.ErrNone, 0
}

func TestOrderOnAllShortPatterns(t *testing.T) {
	level := []string{""}
	for size := 0; size <= 6; size++ {
		var longer []string
		for _, p := range level {
			code, at := orderByWords(p)
			_, gotCode, gotAt := impl.ParseERE(p)
			if gotCode != code || gotAt != at {
				t.Fatalf("%q gives %d at %d, want %d at %d", p, gotCode, gotAt, code, at)
			}
			for _, c := range "a()|*^$" {
				longer = append(longer, p+string(c))
			}
		}
		level = longer
	}
}

func TestParseAnswersAtEveryString(t *testing.T) {
	rnd := rand.New(rand.NewSource(1))
	every := ""
	for c := range 256 {
		every += string([]byte{byte(c)})
	}
	alphabets := []string{every, "ab()|*^$", `a[]^-:.=\`, "a{}0123,", `ab()|*+?^$[]-{}01,\:.=`, "[]:ailph", "()a{205}"}
	accepted := 0
	for i := range 200000 {
		p := randomText(rnd, alphabets[i%len(alphabets)], 14)
		r, code, at := impl.ParseERE(p)
		if code == impl.ErrNone {
			accepted++
			if at != 0 || !impl.RuleOK(r) {
				t.Fatalf("%q is accepted at %d with %v", p, at, r)
			}
			continue
		}
		if code < impl.ErrNone || code > impl.ErrWeight || at < 0 || at > len(p) || len(r.Branches) != 0 || r.Groups != 0 {
			t.Fatalf("%q gives %v with %d at %d", p, r, code, at)
		}
	}
	if accepted < 1000 {
		t.Error("only", accepted, "patterns were accepted")
	}
}
