package tests

// Promise 3: MatchSpan says whether text[a:b) belongs to the rule in its place, for hand-made rules too.

import (
	"math"
	"math/rand"
	"regexp"
	"strings"
	"testing"

	"loop.example/s0007/impl"
)

func TestMatchInItsPlace(t *testing.T) {
	cases := []struct {
		pattern, text string
		a, b          int
		closed, want  bool
	}{
		{"^a", "aa", 0, 1, false, true},
		{"^a", "aa", 1, 2, false, false},
		{"^a", "aa", 1, 2, true, false},
		{"a$", "aa", 1, 2, true, true},
		{"a$", "aa", 1, 2, false, false},
		{"a$", "aa", 0, 1, true, false},
		{"^a$", "a", 0, 1, true, true},
		{"^a$", "a", 0, 1, false, false},
		{"^a|b", "ab", 1, 2, false, true},
		{"^b|a$|b", "ab", 1, 2, false, true},
		{"^b|b$", "ab", 1, 2, false, false},
		{"^b|b$", "ab", 1, 2, true, true},
		{"^a*$", "", 0, 0, true, true},
		{"^a*$", "", 0, 0, false, false},
		{"a*$", "ba", 2, 2, true, true},
		{"^a*", "ba", 2, 2, true, false},
		{".", "\n", 0, 1, false, true},
		{".", "\x00", 0, 1, false, true},
		{"[\x80-\xff]+", "\x7f\x80\xff", 1, 3, false, true},
		{"[\x80-\xff]+", "\x7f\x80\xff", 0, 3, false, false},
		{"[^\x00-\xff]*", "a", 0, 1, false, false},
		{"[^\x00-\xff]*", "a", 1, 1, false, true},
		{"a{0}b", "ab", 1, 2, false, true},
		{"a{0}b", "ab", 0, 2, false, false},
		{"(a|ab)(c|bcd)(d*)", "abcd", 0, 4, false, true},
		{"a{2,}", "aaaaa", 0, 1, false, false},
		{"a{2,}", "aaaaa", 0, 5, false, true},
		{"(a{2}){2,3}", "aaaaaaaa", 0, 6, false, true},
		{"(a{2}){2,3}", "aaaaaaaa", 0, 5, false, false},
		{"(a{2}){2,3}", "aaaaaaaa", 0, 8, false, false},
	}
	for _, c := range cases {
		if got := impl.MatchSpan(parsed(t, c.pattern), c.text, c.a, c.b, c.closed); got != c.want {
			t.Error(c, "gives", got)
		}
	}
}

func TestMatchSaysFalseElsewhere(t *testing.T) {
	r := parsed(t, ".*")
	for _, c := range [][2]int{{-1, 1}, {2, 1}, {0, 4}, {4, 4}, {math.MinInt, math.MaxInt}, {math.MaxInt, math.MinInt}, {-1, -1}} {
		if impl.MatchSpan(r, "abc", c[0], c[1], true) {
			t.Error("matches at", c)
		}
	}
	bad := []impl.Rule{{}, rule(1, char('a')), rule(0, char('a'), char('a')), rule(0, char('a'), repeat(1, 0)), rule(0, set(97, 300))}
	for i, b := range bad {
		if impl.MatchSpan(b, "a", 0, 1, true) {
			t.Error("rule", i, "isn't OK and matches")
		}
	}
	heavy := rule(0, char('a'), repeat(0, 250), repeat(0, 8), char('b'), alt())
	if impl.MatchSpan(heavy, "b", 0, 1, true) {
		t.Error("a rule that is too heavy matches")
	}
}

func TestMatchBoundOfTheText(t *testing.T) {
	r := parsed(t, "a+")
	text := strings.Repeat("a", impl.MaxText)
	if !impl.MatchSpan(r, text, 0, impl.MaxText, false) || !impl.MatchSpan(r, text, 5, 6, true) {
		t.Error("a text of MaxText bytes is refused")
	}
	if impl.MatchSpan(r, text+"a", 0, impl.MaxText+1, false) || impl.MatchSpan(r, text+"a", 5, 6, true) {
		t.Error("a text of MaxText+1 bytes is taken")
	}
}

func TestMatchHandMade(t *testing.T) {
	a, b, c := char('a'), char('b'), char('c')
	cases := []struct {
		name string
		r    impl.Rule
		text string
		want bool
	}{
		{"leaning to the left", rule(0, a, b, seq(), c, seq()), "abc", true},
		{"leaning to the left, in another order", rule(0, a, b, seq(), c, seq()), "acb", false},
		{"groups in another order", rule(2, a, group(2), b, group(1), seq()), "ab", true},
		{"a star on a star", rule(0, a, repeat(0, -1), repeat(0, -1)), "aaa", true},
		{"a question mark on a star", rule(0, a, repeat(0, -1), repeat(0, 1)), "aaa", true},
		{"a star on a question mark", rule(0, a, repeat(0, 1), repeat(0, -1)), "aaa", true},
		{"two question marks", rule(0, a, repeat(0, 1), repeat(0, 1)), "aa", false},
		{"none on a star", rule(0, a, repeat(0, -1), repeat(0, 0)), "a", false},
		{"a star on none", rule(0, a, repeat(0, 0), repeat(0, -1)), "", true},
		{"two on a question mark", rule(0, a, repeat(0, 1), repeat(2, 2)), "a", true},
		{"two on a question mark, three read", rule(0, a, repeat(0, 1), repeat(2, 2)), "aaa", false},
		{"no byte", rule(0, set()), "", false},
		{"no byte, none or more", rule(0, set(), repeat(0, -1)), "", true},
		{"no byte, or a", rule(0, set(), a, alt()), "a", true},
		{"no byte after a", rule(0, a, set(), seq()), "a", false},
	}
	for _, x := range cases {
		if impl.MatchSpan(x.r, x.text, 0, len(x.text), false) != x.want {
			t.Error(x.name)
		}
	}
}

func TestMatchLikeTheWords(t *testing.T) {
	rnd := rand.New(rand.NewSource(3))
	matches := 0
	for range 6000 {
		r := randomRule(rnd)
		if !impl.RuleOK(r) {
			t.Fatal("isn't OK:", r)
		}
		text := randomText(rnd, "abc\xff", 5)
		for a := 0; a <= len(text); a++ {
			for b := a; b <= len(text); b++ {
				for _, closed := range []bool{false, true} {
					want := slowMatch(r, text, a, b, closed)
					if got := impl.MatchSpan(r, text, a, b, closed); got != want {
						t.Fatalf("%v on %q from %d to %d, closed %v, gives %v", r, text, a, b, closed, got)
					}
					if want {
						matches++
					}
				}
			}
		}
	}
	if matches < 1000 {
		t.Error("only", matches, "matches")
	}
}

// A second witness that knows nothing of this document's words: the library's matcher, where the two syntaxes agree.
func TestMatchLikeTheLibrary(t *testing.T) {
	rnd := rand.New(rand.NewSource(4))
	seen := 0
	for range 60000 {
		p := randomText(rnd, "aabbc(())||*+?.^$[a]{2}", 12)
		r, code, _ := impl.ParseERE(p)
		if code != impl.ErrNone {
			continue
		}
		library, err := regexp.Compile(`\A(?:` + p + `)\z`)
		if err != nil {
			continue
		}
		seen++
		for range 10 {
			text := randomText(rnd, "abc{2}", 6)
			if impl.MatchSpan(r, text, 0, len(text), true) != library.MatchString(text) {
				t.Fatalf("%q on %q", p, text)
			}
		}
	}
	if seen < 500 {
		t.Error("only", seen, "patterns were compared")
	}
}

func TestMatchChangesNothing(t *testing.T) {
	r := parsed(t, "(a|b[c-e])*f{2,3}")
	again := parsed(t, "(a|b[c-e])*f{2,3}")
	if !impl.RuleOK(r) || !impl.MatchSpan(r, "abdff", 0, 5, true) {
		t.Fatal("doesn't match")
	}
	if !sameNodes(r.Branches[0].Nodes, again.Branches[0].Nodes) {
		t.Error("the rule was changed:", r)
	}
}

// Each of these takes ages unless a byte costs the same whatever the repeats are nested in.
func TestMatchEndsSoon(t *testing.T) {
	text := strings.Repeat("a", impl.MaxText)
	nested := "a*b"
	for range 20 {
		nested = "(a|(" + nested + ")*b)"
	}
	for _, p := range []string{"(a*)*b", "((a*)*)*b", "(a|a)*b", "(a|aa)*b", nested + "*c", "(a?){200}(a?){200}b", "((a{0}){255}){7}b"} {
		if impl.MatchSpan(parsed(t, p), text, 0, len(text), false) {
			t.Errorf("%q matches", p)
		}
	}
	pile := list(char('a'))
	for i := range impl.MaxNodes - 3 {
		pile = append(pile, []impl.Node{repeat(0, -1), repeat(1, 1), repeat(0, 1)}[i%3])
	}
	pile = append(pile, repeat(250, 250), repeat(8, 8))
	if !impl.MatchSpan(rule(0, pile...), text[:50], 0, 50, false) {
		t.Error("a pile of repeats doesn't match")
	}
	wide := impl.Rule{}
	for range impl.MaxPattern {
		wide.Branches = append(wide.Branches, impl.Branch{Nodes: list(char('a'), repeat(0, -1))})
	}
	if !impl.MatchSpan(wide, text, 0, len(text), false) {
		t.Error("a wide rule doesn't match")
	}
	all := list(char('a'))
	for range impl.MaxWeight - 1 {
		all = append(all, char('a'), alt())
	}
	if !impl.MatchSpan(rule(0, append(all, repeat(0, -1))...), text, 0, len(text), false) {
		t.Error("a star of everything doesn't match")
	}
}
