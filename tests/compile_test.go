package tests

import (
	"math/rand"
	"reflect"
	"slices"
	"strings"
	"testing"

	"loop.example/s0007/impl"
)

// emptySet is a pattern that matches no byte.
const emptySet = "[^\x00-\xff]"

func TestCompileExample(t *testing.T) {
	d, code := impl.Compile(parsedAll(t, "ab"), 4)
	if code != impl.CompileOK || !sameDfa(d, abDfa()) {
		t.Error(code, d)
	}
	d, code = impl.Compile(parsedAll(t, "ab"), 3)
	if code != impl.CompileStates || !sameDfa(d, impl.Dfa{}) {
		t.Error(code, d)
	}
}

// lists are lists of rules; every byte is, for each of them, like one of those of alphabet.
var lists = [][]string{
	{},
	{"ab"},
	{"^a"},
	{"a$"},
	{"^a$"},
	{"b", "a|b"},
	{"a|b", "b"},
	{"a*"},
	{"^a*", "b"},
	{"a*$", "b"},
	{"^a*$"},
	{"^(ab)*$|b", "a"},
	{"b", "^(a|b)*"},
	{"b$", "ab", "^b"},
	{"a", "aa", "aaa$", "^aaaa"},
	{"abab", "bab", "aba$"},
	{"(a|ab)(c|bcd)", "b+c"},
	{"a{0,3}"},
	{"a{2,3}b|ba{1,}", "(ab?){2}"},
	{"(a?b?){0,3}c"},
	{"(a*b*){2,}c$"},
	{emptySet},
	{"a" + emptySet + "b", "b"},
	{"a(" + emptySet + ")*b"},
	{"(a|b){0}", "a"},
	{"[^a]b", "."},
	{"a.{3}", "^..$"},
	{"^a|^b|c", "^.b|.c$"},
}

const alphabet = "abcdz"

func TestCompileAnswersAndNumbers(t *testing.T) {
	texts := words(alphabet, 5)
	for _, patterns := range lists {
		rules := parsedAll(t, patterns...)
		d, code := impl.Compile(rules, impl.MaxStates)
		if code != impl.CompileOK {
			t.Fatalf("%q is refused: %d", patterns, code)
		}
		checkSmallest(t, d)
		if !sameDfa(impl.Minimize(d), d) {
			t.Errorf("%q: not minimal", patterns)
		}
		for _, w := range texts {
			checkAnswers(t, rules, d, w)
		}
	}
}

func checkAnswers(t *testing.T, rules []impl.Rule, d impl.Dfa, w string) {
	t.Helper()
	tag, end := slowAnswers(rules, w)
	s := impl.RunDfa(d, 0, w)
	if s < 0 || d.Tag[s] != tag || d.End[s] != end {
		t.Fatalf("%v after %q: state %d, want %d and %d: %v", rules, w, s, tag, end, d)
	}
}

func TestCompileCountsPositionSets(t *testing.T) {
	for _, patterns := range lists {
		rules := parsedAll(t, patterns...)
		checkCount(t, rules, countSets(rules, alphabet))
	}
	// The sets by hand: {} and, after the k-th a in a row, the positions 1 to k; the star's copy is one of its own.
	for pattern, count := range map[string]int{
		"a": 3, "aa": 4, "a*": 3, "a+": 4, "a{2,}": 5, "a{3}": 5, "a{0,3}": 5, "a{0}": 2, "a{1}": 3, "(a{2}){3}": 8,
		"^a": 3, "^aa": 4, "^a{0,3}": 5, ".": 2, "..": 3, emptySet: 2, "a" + emptySet + "b": 3, "a|a": 3, "a|b": 4,
		"a.{9}": 1 + 1<<10, "a.{10}": 1 + 1<<11, "(a|b)*": 4, "(a*)*": 3, "((a?)?){2}": 3,
	} {
		checkCount(t, parsedAll(t, pattern), count)
	}
}

// checkCount asks for the exact cap: the number of position sets is accepted, and one less isn't.
func checkCount(t *testing.T, rules []impl.Rule, count int) {
	t.Helper()
	if d, code := impl.Compile(rules, count); code != impl.CompileOK || !impl.DfaOK(d) || len(d.Tag) > count {
		t.Errorf("%v with %d: %d", rules, count, code)
	}
	if d, code := impl.Compile(rules, count-1); code != impl.CompileStates || !sameDfa(d, impl.Dfa{}) {
		t.Errorf("%v with %d, which is too few: %d", rules, count-1, code)
	}
}

func TestCompileAtRandom(t *testing.T) {
	rnd := rand.New(rand.NewSource(11))
	for range 300 {
		rules := []impl.Rule{}
		for range rnd.Intn(4) {
			rules = append(rules, randomRule(rnd))
		}
		d, code := impl.Compile(rules, impl.MaxStates)
		if code != impl.CompileOK {
			t.Fatal(code, rules)
		}
		checkSmallest(t, d)
		for range 60 {
			checkAnswers(t, rules, d, randomText(rnd, "abc", 9))
		}
		checkCount(t, rules, countSets(rules, "abc"))
	}
}

func TestCompileMost(t *testing.T) {
	for _, rules := range [][]impl.Rule{nil, parsedAll(t, "ab"), {{}}, make([]impl.Rule, impl.MaxRules+1)} {
		for _, most := range []int{-1 << 62, -1, 0, impl.MaxStates + 1, 1 << 62} {
			if d, code := impl.Compile(rules, most); code != impl.CompileMost || !sameDfa(d, impl.Dfa{}) {
				t.Error(most, code)
			}
		}
	}
	for _, most := range []int{4, impl.MaxStates} {
		if _, code := impl.Compile(parsedAll(t, "ab"), most); code != impl.CompileOK {
			t.Error(most, code)
		}
	}
	for _, rules := range [][]impl.Rule{nil, parsedAll(t, "ab"), parsedAll(t, emptySet)} {
		if _, code := impl.Compile(rules, 1); code != impl.CompileStates {
			t.Error("1 is too few for every list:", code)
		}
	}
}

func TestCompileNoRule(t *testing.T) {
	want := impl.Dfa{Classes: make([]int, 256), Width: 1, Next: []int{0}, Tag: []int{-1}, End: []int{-1}}
	for _, rules := range [][]impl.Rule{nil, {}, parsedAll(t, emptySet)} {
		if d, code := impl.Compile(rules, 2); code != impl.CompileOK || !sameDfa(d, want) {
			t.Error(code, d)
		}
	}
}

func TestCompileManyRules(t *testing.T) {
	patterns := []string{}
	for i := range impl.MaxRules {
		patterns = append(patterns, "a"+string(rune('0'+i/10))+string(rune('0'+i%10)))
	}
	rules := parsedAll(t, patterns...)
	d, code := impl.Compile(rules, impl.MaxStates)
	if code != impl.CompileOK {
		t.Fatal(code)
	}
	for i, p := range patterns {
		s := impl.RunDfa(d, 0, "x"+p)
		if d.Tag[s] != i || d.End[s] != i {
			t.Error(p, d.Tag[s], d.End[s])
		}
	}
	rules = append(rules, parsed(t, "b"))
	for _, most := range []int{1, impl.MaxStates} {
		if d, code := impl.Compile(rules, most); code != impl.CompileRules || !sameDfa(d, impl.Dfa{}) {
			t.Error(code)
		}
	}
}

func TestCompileWeight(t *testing.T) {
	heavy := "((a{250}){8}){0}" // of weight 2000, and without a position
	full := parsedAll(t, heavy, heavy)
	if d, code := impl.Compile(full, 2); code != impl.CompileOK || !slices.Equal(d.Tag, []int{0}) {
		t.Error(code, d)
	}
	over := append(full, parsed(t, "b"))
	for _, most := range []int{1, 2, impl.MaxStates} {
		if d, code := impl.Compile(over, most); code != impl.CompileRules || !sameDfa(d, impl.Dfa{}) {
			t.Error(code)
		}
	}
	// 4000 positions in a row, each of which is a set of its own: 4002 with the empty text and the empty set.
	long := parsedAll(t, "^(a{250}){8}", "^(b{250}){8}")
	if _, code := impl.Compile(long, impl.MaxStates); code != impl.CompileStates {
		t.Error(code)
	}
	long = parsedAll(t, "^(a{250}){8}", "^(b{222}){9}")
	d, code := impl.Compile(long, impl.MaxStates)
	if code != impl.CompileOK || len(d.Tag) != 1+1999+1997+1+2 {
		t.Fatal(code, len(d.Tag))
	}
	for _, w := range []string{strings.Repeat("a", 2000), strings.Repeat("b", 1998)} {
		s, before := impl.RunDfa(d, 0, w), impl.RunDfa(d, 0, w[1:])
		if d.Tag[s] < 0 || d.Tag[before] != -1 || d.Tag[impl.RunDfa(d, s, "a")] != -1 {
			t.Error(w[:1], d.Tag[s], d.Tag[before])
		}
	}
}

func TestCompileWrongRules(t *testing.T) {
	good := parsed(t, "ab")
	wrong := []impl.Rule{
		{},
		rule(0),
		rule(0, char('a'), char('b')),
		rule(1, char('a')),
		rule(0, impl.Node{Kind: 6}),
		rule(0, char('a'), repeat(2, 1)),
		rule(0, char('a'), repeat(250, 250), repeat(250, 250)),
	}
	for i, w := range wrong {
		for _, rules := range [][]impl.Rule{{w}, {w, good}, {good, good, w}} {
			for _, most := range []int{1, 4, impl.MaxStates} {
				if d, code := impl.Compile(rules, most); code != impl.CompileRules || !sameDfa(d, impl.Dfa{}) {
					t.Error(i, most, code)
				}
			}
		}
	}
}

func TestCompileLeavesItsArguments(t *testing.T) {
	patterns := []string{"(a|b)c+|^d$", "[^a-f]{2,4}x*", "(q(r)?)*$"}
	rules := parsedAll(t, patterns...)
	d, _ := impl.Compile(rules, impl.MaxStates)
	if !reflect.DeepEqual(rules, parsedAll(t, patterns...)) {
		t.Error("the rules have changed")
	}
	again, _ := impl.Compile(rules, impl.MaxStates)
	if !sameDfa(d, again) {
		t.Error("asked twice, it answers differently")
	}
	all := [][]int{d.Classes, d.Next, d.Tag, d.End}
	for i, list := range all {
		for k := range list {
			list[k] = 1000 + i
		}
	}
	for i, list := range all {
		if slices.Min(list) != 1000+i || slices.Max(list) != 1000+i {
			t.Error("lists share memory:", i)
		}
	}
}
