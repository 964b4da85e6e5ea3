package tests

// Promise 13: Capture gives the spans of 4.3 for every span that belongs to an OK rule in its place.

import (
	"math"
	"math/rand"
	"reflect"
	"slices"
	"strings"
	"testing"

	"loop.example/s0007/impl"
)

func TestCaptureWholeTexts(t *testing.T) {
	for _, x := range []struct {
		pattern, text string
		groups        []impl.Pair
	}{
		{"(a|ab)(c|bcd)(d*)", "abcd", spansOf(0, 2, 2, 3, 3, 4)},
		{"(a*)*", "", spansOf(-1, -1)},
		{"(a*)+", "", spansOf(0, 0)},
		{"((a)|(b))*", "ab", spansOf(1, 2, 0, 1, 1, 2)},
		// A sequence: the greatest cut, whatever the parts after it would like.
		{"(a*)(ab)*(b*)", "abb", spansOf(0, 1, -1, -1, 1, 3)},
		{"(a?)(ab)?", "ab", spansOf(0, 0, 0, 2)},
		{"(a?)(ab)?b?", "ab", spansOf(0, 1, -1, -1)},
		{"(.*)(.*)(.*)", "xyz", spansOf(0, 3, 3, 3, 3, 3)},
		{"(b*)(a*)(b*)(a*)", "aab", spansOf(0, 0, 0, 2, 2, 3, 3, 3)},
		{"(.*)(a|b)", "aab", spansOf(0, 2, 2, 3)},
		{"((.*)b)(.*)", "abab", spansOf(0, 4, 0, 3, 4, 4)},
		{"x((a)(b))y", "xaby", spansOf(1, 3, 1, 2, 2, 3)},
		{"xy(z)zy", "xyzzy", spansOf(2, 3)},
		// An alternative: the left if it has the whole span, even where the right is longer in its parts.
		{"((a)(b)|(ab))", "ab", spansOf(0, 2, 0, 1, 1, 2, -1, -1)},
		{"((ab)|(a)(b))", "ab", spansOf(0, 2, 0, 2, -1, -1, -1, -1)},
		{"((a)|(ab)|(abc))", "abc", spansOf(0, 3, -1, -1, -1, -1, 0, 3)},
		{"((a|ab)|(ab))c", "abc", spansOf(0, 2, 0, 2, -1, -1)},
		// Branches: the first, and nothing of the others.
		{"(a)b|(ab)|a(b)", "ab", spansOf(0, 1, -1, -1, -1, -1)},
		{"(b)a|(ab)|a(b)", "ab", spansOf(-1, -1, 0, 2, -1, -1)},
		{"(c)*x|(a)|((a))", "a", spansOf(-1, -1, 0, 1, -1, -1, -1, -1)},
		// A star: no round is empty, the first round is the longest, the last round is what is told.
		{"(a|b)*", "", spansOf(-1, -1)},
		{"(a|b)*", "abab", spansOf(3, 4)},
		{"(a?)*", "aa", spansOf(1, 2)},
		{"(a*)*", "aa", spansOf(0, 2)},
		{"(a*b?)*", "aabab", spansOf(3, 5)},
		{"(a|ab|b)*", "abb", spansOf(2, 3)},
		{"(ab|a|b)*", "abb", spansOf(2, 3)},
		{"(a|ab|bb)*", "abb", spansOf(1, 3)},
		{"((a*)*)*", "aa", spansOf(0, 2, 0, 2)},
		{"((a)|b)*", "ab", spansOf(1, 2, 0, 1)},
		{"((a)|(b)c|d)*", "bcad", spansOf(3, 4, 2, 3, 0, 1)},
		{"(a(b)?)*", "aba", spansOf(2, 3, 1, 2)},
		{"(aa|aaa)*", "aaaaa", spansOf(3, 5)},
		{"((aa)|(aaa))*", "aaaa", spansOf(2, 4, 2, 4, -1, -1)},
		{"(a|[ab]*c)*", "aaaba" + "c", spansOf(0, 6)},
		// Copies: m of them, then optional ones, each together with those after it.
		{"(a){0}b", "b", spansOf(-1, -1)},
		{"((a)|b){0}", "", spansOf(-1, -1, -1, -1)},
		{"(a)?b", "b", spansOf(-1, -1)},
		{"(a)?b", "ab", spansOf(0, 1)},
		{"(a*)?", "", spansOf(0, 0)},
		{"(a*){0,3}", "", spansOf(0, 0)},
		{"(a?){0,3}", "a", spansOf(1, 1)},
		{"(a?){3}", "a", spansOf(1, 1)},
		{"(a?){3}", "aaa", spansOf(2, 3)},
		{"(a|b){0,2}", "ab", spansOf(1, 2)},
		{"(a|b){0,5}", "ab", spansOf(1, 2)},
		{"(a|b){2,}", "abab", spansOf(3, 4)},
		{"(a*){2,}", "aa", spansOf(2, 2)},
		{"(a*)+", "aa", spansOf(0, 2)},
		{"(a?){1,}", "aa", spansOf(1, 2)},
		{"(a|ab){2}(b?)", "aba", spansOf(2, 3, 3, 3)},
		{"((a)|(b)){2}", "ab", spansOf(1, 2, 0, 1, 1, 2)},
		{"((a)|(b)){0,4}", "ba", spansOf(1, 2, 1, 2, 0, 1)},
		{"((a)|b?){3}", "a", spansOf(1, 1, 0, 1)},
		{"((a?)|(b)){2,3}", "b", spansOf(1, 1, 1, 1, 0, 1)},
		// Bytes of every sort.
		{"(\x00)([\x80-\xff]*)", "\x00\xff\x80", spansOf(0, 1, 1, 3)},
		{"(\n|.)(.)", "\n\n", spansOf(0, 1, 1, 2)},
	} {
		want := append(spansOf(0, len(x.text)), x.groups...)
		for _, closed := range []bool{false, true} {
			if got := impl.Capture(parsed(t, x.pattern), x.text, 0, len(x.text), closed); !slices.Equal(got, want) {
				t.Errorf("%q on %q: %v, want %v", x.pattern, x.text, got, want)
			}
		}
	}
}

func TestCaptureInItsPlace(t *testing.T) {
	for _, x := range []struct {
		pattern, text string
		a, b          int
		closed        bool
		want          []impl.Pair
	}{
		{"(b)(c)", "abcd", 1, 3, false, spansOf(1, 3, 1, 2, 2, 3)},
		{"(a)*(b)*", "xabx", 1, 3, true, spansOf(1, 3, 1, 2, 2, 3)},
		{"(a)", "aaa", 1, 2, false, spansOf(1, 2, 1, 2)},
		{"(a*)", "aaa", 2, 2, false, spansOf(2, 2, 2, 2)},
		{"(a*)", "aaa", 3, 3, false, spansOf(3, 3, 3, 3)},
		{"^(a)|(a)", "aa", 0, 1, false, spansOf(0, 1, 0, 1, -1, -1)},
		{"^(a)|(a)", "aa", 1, 2, false, spansOf(1, 2, -1, -1, 1, 2)},
		{"(a)$|(a)", "aa", 1, 2, true, spansOf(1, 2, 1, 2, -1, -1)},
		{"(a)$|(a)", "aa", 1, 2, false, spansOf(1, 2, -1, -1, 1, 2)},
		{"(a)$|(a)", "aa", 0, 1, true, spansOf(0, 1, -1, -1, 0, 1)},
		{"^(a*)$|(a)", "aa", 0, 2, true, spansOf(0, 2, 0, 2, -1, -1)},
		{"^(a*)$", "", 0, 0, true, spansOf(0, 0, 0, 0)},
		{"^(a*)$", "", 0, 0, false, nil},
		{"^(a)", "aa", 1, 2, true, nil},
		{"(a)$", "aa", 0, 1, true, nil},
		{"(a)$", "aa", 1, 2, false, nil},
		{"(a)", "ab", 0, 2, true, nil},
		{"(a)", "ab", 0, 0, true, nil},
		{"(a)(b)", "ab", 0, 1, true, nil},
		{"a", "a", 0, 1, true, spansOf(0, 1)},
		{"a|b*", "bb", 0, 2, true, spansOf(0, 2)},
		{"(" + emptySet + ")*", "", 0, 0, true, spansOf(0, 0, -1, -1)},
		{"(" + emptySet + ")", "a", 0, 1, true, nil},
	} {
		if got := impl.Capture(parsed(t, x.pattern), x.text, x.a, x.b, x.closed); !slices.Equal(got, x.want) {
			t.Errorf("%q on %q from %d to %d: %v, want %v", x.pattern, x.text, x.a, x.b, got, x.want)
		}
	}
}

func TestCaptureHandMade(t *testing.T) {
	a, b, c, d, any := char('a'), char('b'), char('c'), char('d'), set(0, 255)
	star := repeat(0, -1)
	for _, x := range []struct {
		name string
		r    impl.Rule
		text string
		want []impl.Pair
	}{
		// (x y) z: the cut before the last is the greatest first.
		{"leaning to the left", rule(3, any, star, group(1), any, star, group(2), seq(), any, star, group(3), seq()), "xyz", spansOf(0, 3, 0, 3, 3, 3, 3, 3)},
		{"the example of 4.3, leaning to the left", rule(3, a, a, b, seq(), alt(), group(1), c, b, c, d, seq(), seq(), alt(), group(2), seq(), d, star, group(3), seq()),
			"abcd", spansOf(0, 4, 0, 1, 1, 4, 4, 4)},
		{"numbers in another order", rule(3, a, group(3), b, group(1), seq(), group(2)), "ab", spansOf(0, 2, 1, 2, 0, 2, 0, 1)},
		{"left of the left", rule(3, a, group(1), a, group(2), alt(), a, group(3), alt()), "a", spansOf(0, 1, 0, 1, -1, -1, -1, -1)},
		{"right of the left", rule(3, b, group(1), a, group(2), alt(), a, group(3), alt()), "a", spansOf(0, 1, -1, -1, 0, 1, -1, -1)},
		{"a star on a star", rule(1, a, group(1), star, star), "aa", spansOf(0, 2, 1, 2)},
		{"a question mark on a star", rule(1, a, group(1), star, repeat(0, 1)), "aa", spansOf(0, 2, 1, 2)},
		{"two question marks", rule(1, a, star, group(1), repeat(0, 1), repeat(0, 1)), "", spansOf(0, 0, 0, 0)},
		{"a star on a question mark", rule(1, a, star, group(1), repeat(0, 1), star), "", spansOf(0, 0, -1, -1)},
		{"one copy", rule(1, a, star, group(1), repeat(1, 1)), "", spansOf(0, 0, 0, 0)},
		{"none of many", rule(1, a, group(1), repeat(5, 5), repeat(0, 0)), "", spansOf(0, 0, -1, -1)},
		{"many of none", rule(1, a, group(1), repeat(0, 0), repeat(5, 5)), "", spansOf(0, 0, -1, -1)},
		{"a group on a group", rule(2, a, group(2), group(1)), "a", spansOf(0, 1, 0, 1, 0, 1)},
		{"no byte on the left", rule(2, set(), group(1), a, group(2), alt()), "a", spansOf(0, 1, -1, -1, 0, 1)},
	} {
		if got := impl.Capture(x.r, x.text, 0, len(x.text), false); !slices.Equal(got, x.want) {
			t.Errorf("%s: %v, want %v", x.name, got, x.want)
		}
	}
}

// checkCapture holds all spans of a text against the words of 4.3, and counts those that belong to the rule.
func checkCapture(t *testing.T, r impl.Rule, text string) int {
	t.Helper()
	found := 0
	for a := 0; a <= len(text); a++ {
		for b := a; b <= len(text); b++ {
			for _, closed := range []bool{false, true} {
				got, want := impl.Capture(r, text, a, b, closed), slowCapture(r, text, a, b, closed)
				if !slices.Equal(got, want) {
					t.Fatalf("%v on %q from %d to %d, closed %v: %v, want %v", r, text, a, b, closed, got, want)
				}
				if (len(got) > 0) != impl.MatchSpan(r, text, a, b, closed) {
					t.Fatalf("%v on %q from %d to %d, closed %v: captured and matched aren't the same", r, text, a, b, closed)
				}
				found += min(len(got), 1)
			}
		}
	}
	return found
}

func TestCaptureLikeTheWords(t *testing.T) {
	rnd := rand.New(rand.NewSource(21))
	found := 0
	for range 4000 {
		r := groupedRule(rnd)
		if !impl.RuleOK(r) {
			t.Fatal("isn't OK:", r)
		}
		found += checkCapture(t, r, randomText(rnd, "aabc", 5))
	}
	if found < 5000 {
		t.Error("only", found, "spans")
	}
}

func TestCaptureLikeTheWordsParsed(t *testing.T) {
	rnd := rand.New(rand.NewSource(22))
	found := 0
	for range 4000 {
		found += checkCapture(t, parsed(t, randomPattern(rnd)), randomText(rnd, "ab", 5))
	}
	if found < 5000 {
		t.Error("only", found, "spans")
	}
}

func TestCaptureAllShortTexts(t *testing.T) {
	for _, p := range []string{
		"((a|ab)(c|bcd)(d*))*", "((a)|(b)|(ab))*", "((a*)(b*))*", "((a*)|(b*))*", "((a?)(b?))+", "((a|b)*(ab))*(b)*",
		"((aa)*|(aaa)*)(a*)", "((a)|(a)(b)?)*", "((a+)|(b+)){2,3}", "((a|b){0,2}(b|a)?){2}", "(((a)*b)*|(c))*a", "(.*)(a)(.*)",
	} {
		r := parsed(t, p)
		for _, text := range words("ab", 6) {
			got, want := impl.Capture(r, text, 0, len(text), true), slowCapture(r, text, 0, len(text), true)
			if !slices.Equal(got, want) {
				t.Fatalf("%q on %q: %v, want %v", p, text, got, want)
			}
		}
	}
}

func TestCaptureWrongInputs(t *testing.T) {
	r := parsed(t, "(.*)")
	for _, x := range [][2]int{{-1, 1}, {2, 1}, {0, 4}, {4, 4}, {-1, -1}, {math.MinInt, math.MaxInt}, {math.MaxInt, math.MinInt}, {0, math.MaxInt}} {
		if got := impl.Capture(r, "abc", x[0], x[1], true); len(got) != 0 {
			t.Error(x, got)
		}
	}
	heavy := rule(1, char('a'), group(1), repeat(0, 250), repeat(0, 9), char('b'), alt())
	for i, bad := range []impl.Rule{{}, rule(1, char('b')), rule(0, char('b'), char('b')), rule(1, char('b'), group(2)), rule(2, char('b'), group(1), group(1)), heavy} {
		if got := impl.Capture(bad, "b", 0, 1, true); len(got) != 0 {
			t.Error("rule", i, "isn't OK:", got)
		}
	}
}

func TestCaptureBoundOfTheText(t *testing.T) {
	r := parsed(t, "(a)*(b?)")
	text := strings.Repeat("a", impl.MaxText-1) + "b"
	want := spansOf(0, impl.MaxText, impl.MaxText-2, impl.MaxText-1, impl.MaxText-1, impl.MaxText)
	if got := impl.Capture(r, text, 0, impl.MaxText, false); !slices.Equal(got, want) {
		t.Error(got)
	}
	for _, x := range [][2]int{{0, impl.MaxText + 1}, {1, 2}, {0, 0}} {
		if got := impl.Capture(r, text+"b", x[0], x[1], false); len(got) != 0 {
			t.Error("a text of MaxText+1 bytes is taken:", x)
		}
	}
}

func TestCaptureManyGroups(t *testing.T) {
	deep := strings.Repeat("(", impl.MaxGroups) + "a" + strings.Repeat(")", impl.MaxGroups)
	got := impl.Capture(parsed(t, deep), "xax", 1, 2, false)
	if !slices.Equal(got, slices.Repeat(spansOf(1, 2), impl.MaxGroups+1)) {
		t.Error(got)
	}
	row := strings.Repeat("(a|b)", impl.MaxGroups-140) + "(c)"
	text := strings.Repeat("ab", (impl.MaxGroups-140)/2) + "c"
	for g, span := range impl.Capture(parsed(t, row), text, 0, len(text), false) {
		if g > 0 && (span.Start != g-1 || span.End != g) {
			t.Fatal(g, span)
		}
	}
}

func TestCaptureChangesNothing(t *testing.T) {
	const p = "((a)|(b))*c{2,}(d?)"
	r := parsed(t, p)
	first := impl.Capture(r, "abccd", 0, 5, true)
	if !reflect.DeepEqual(r, parsed(t, p)) {
		t.Error("the rule was changed:", r)
	}
	want := slices.Clone(first)
	first[0], first[1] = impl.Pair{Start: 9, End: 9}, impl.Pair{Start: 9, End: 9}
	if again := impl.Capture(r, "abccd", 0, 5, true); !slices.Equal(again, want) {
		t.Error("a second answer hangs on the first:", again)
	}
}

// On texts of MaxText bytes, each of these takes ages unless the cuts are found by reading, and read no further than
// they must.
func TestCaptureEndsSoon(t *testing.T) {
	const n = impl.MaxText
	as := strings.Repeat("a", n)
	abs := strings.Repeat("ab", n/2)
	nest := strings.Repeat("(", 200) + "a" + strings.Repeat(")*", 200)
	heavy := strings.Repeat("(", 40) + "(.{199}){10}" + strings.Repeat(")*", 40)
	for _, x := range []struct {
		pattern, text string
		groups        map[int]impl.Pair
	}{
		{"((a*)*)*", as, map[int]impl.Pair{1: {Start: 0, End: n}, 2: {Start: 0, End: n}}},
		{nest, as, map[int]impl.Pair{1: {Start: 0, End: n}, 199: {Start: 0, End: n}, 200: {Start: n - 1, End: n}}},
		{"((a)|(b))*", abs, map[int]impl.Pair{1: {Start: n - 1, End: n}, 2: {Start: n - 2, End: n - 1}, 3: {Start: n - 1, End: n}}},
		{"((.*c)|(a))*", as, map[int]impl.Pair{1: {Start: n - 1, End: n}, 2: {Start: -1, End: -1}, 3: {Start: n - 1, End: n}}},
		{"(((..|...)*c)|(a))*", as, map[int]impl.Pair{1: {Start: n - 1, End: n}, 2: {Start: -1, End: -1}, 4: {Start: n - 1, End: n}}},
		{strings.Repeat("(b*)", 300) + "(a*)", as, map[int]impl.Pair{1: {Start: 0, End: 0}, 300: {Start: 0, End: 0}, 301: {Start: 0, End: n}}},
		{strings.Repeat("(.*a)", 300), as, map[int]impl.Pair{1: {Start: 0, End: n - 299}, 2: {Start: n - 299, End: n - 298}, 300: {Start: n - 1, End: n}}},
		{heavy, as[:3980], map[int]impl.Pair{1: {Start: 0, End: 3980}, 39: {Start: 0, End: 3980}, 40: {Start: 1990, End: 3980}, 41: {Start: 3781, End: 3980}}},
		{"((a?){100}){19}(a*)", as, map[int]impl.Pair{1: {Start: 1800, End: 1900}, 2: {Start: 1899, End: 1900}, 3: {Start: 1900, End: n}}},
	} {
		got := impl.Capture(parsed(t, x.pattern), x.text, 0, len(x.text), false)
		for g, want := range x.groups {
			if g >= len(got) || got[g] != want {
				t.Errorf("%.30q: group %d: want %v", x.pattern, g, want)
			}
		}
	}
}
