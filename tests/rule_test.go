package tests

// Promise 2: what ParseERE accepts is OK, with canonical sets and groups in the order of their openings; and RuleOK holds
// hand-made rules to every line of 1.4.

import (
	"math"
	"math/rand"
	"strings"
	"testing"

	"loop.example/s0007/impl"
)

func TestRuleOfThePattern(t *testing.T) {
	a, b, c, d := char('a'), char('b'), char('c'), char('d')
	cases := []struct {
		pattern string
		nodes   []impl.Node
	}{
		{"a", list(a)},
		{"abcd", list(a, b, c, d, seq(), seq(), seq())},
		{"(a|b|c|d)", list(a, b, c, d, alt(), alt(), alt(), group(1))},
		{"a*b+c?d", list(a, repeat(0, -1), b, repeat(1, -1), c, repeat(0, 1), d, seq(), seq(), seq())},
		{"(ab|c)*d", list(a, b, seq(), c, alt(), group(1), repeat(0, -1), d, seq())},
		{"((a)(b))(c)", list(a, group(2), b, group(3), seq(), group(1), c, group(4), seq())},
		{"(a(b(c)))", list(a, b, c, group(3), seq(), group(2), seq(), group(1))},
		{"a{2}", list(a, repeat(2, 2))},
		{"a{2,}", list(a, repeat(2, -1))},
		{"a{002,3}", list(a, repeat(2, 3))},
		{"a{0}", list(a, repeat(0, 0))},
		{"a{0,0}", list(a, repeat(0, 0))},
		{".", list(set(0, 255))},
		{"]}", list(char(']'), char('}'), seq())},
		{"a,", list(a, char(','), seq())},
		{"\x00\xff", list(set(0, 0), set(255, 255), seq())},
	}
	for _, x := range cases {
		r := parsed(t, x.pattern)
		if len(r.Branches) != 1 || !sameNodes(r.Branches[0].Nodes, x.nodes) || r.Branches[0].Bol || r.Branches[0].Eol {
			t.Errorf("%q gives %v", x.pattern, r)
		}
	}
	for _, e := range []byte(`\^.[]$()|*+?{}`) {
		r := parsed(t, `\`+string([]byte{e}))
		if !sameNodes(r.Branches[0].Nodes, list(char(e))) {
			t.Errorf("the escape of %q gives %v", e, r)
		}
	}
}

func TestBranchesOfThePattern(t *testing.T) {
	r := parsed(t, "^a|b$|^(c)$|(d)")
	if len(r.Branches) != 4 || r.Groups != 2 {
		t.Fatal(r)
	}
	want := []impl.Branch{
		{Bol: true, Nodes: list(char('a'))},
		{Eol: true, Nodes: list(char('b'))},
		{Bol: true, Eol: true, Nodes: list(char('c'), group(1))},
		{Nodes: list(char('d'), group(2))},
	}
	for i, b := range r.Branches {
		if b.Bol != want[i].Bol || b.Eol != want[i].Eol || !sameNodes(b.Nodes, want[i].Nodes) {
			t.Error(i, b)
		}
	}
}

func TestSetOfTheBracket(t *testing.T) {
	cases := []struct {
		pattern string
		want    impl.Node
	}{
		{"[b-da]", set('a', 'd')},
		{"[a-cb-d]", set('a', 'd')},
		{"[ac]", set('a', 'a', 'c', 'c')},
		{"[aa]", set('a', 'a')},
		{"[^b]", set(0, 'a', 'c', 255)},
		{"[]]", set(']', ']')},
		{"[]a]", set(']', ']', 'a', 'a')},
		{"[^]a]", set(0, '\\', '^', '`', 'b', 255)},
		{"[]-a]", set(']', 'a')},
		{"[]-]", set('-', '-', ']', ']')},
		{"[a-]", set('-', '-', 'a', 'a')},
		{"[-a]", set('-', '-', 'a', 'a')},
		{"[^-a]", set(0, ',', '.', '`', 'b', 255)},
		{"[---]", set('-', '-')},
		{"[--/]", set('-', '/')},
		{"[a-c-e]", set('-', '-', 'a', 'c', 'e', 'e')},
		{"[a^]", set('^', '^', 'a', 'a')},
		{"[^^]", set(0, ']', '_', 255)},
		{"[[]", set('[', '[')},
		{"[[-a]", set('[', 'a')},
		{"[A-[]", set('A', '[')},
		{"[+-[x]", set('+', '[', 'x', 'x')},
		{"[a:]", set(':', ':', 'a', 'a')},
		{"[.=:]", set('.', '.', ':', ':', '=', '=')},
		{`[\]`, set('\\', '\\')},
		{`[\n]`, set('\\', '\\', 'n', 'n')},
		{"[(|*$.{]", set('$', '$', '(', '(', '*', '*', '.', '.', '{', '|')},
		{"[a-a]", set('a', 'a')},
		{"[\x00-\xff]", set(0, 255)},
		{"[^\x00-\xff]", set()},
		{"[\x80-\xff]", set(128, 255)},
		{"[[:alpha:]]", set('A', 'Z', 'a', 'z')},
		{"[[:digit:]]", set('0', '9')},
		{"[[:alnum:]]", set('0', '9', 'A', 'Z', 'a', 'z')},
		{"[[:upper:]]", set('A', 'Z')},
		{"[[:lower:]]", set('a', 'z')},
		{"[[:space:]]", set(9, 13, 32, 32)},
		{"[[:blank:]]", set(9, 9, 32, 32)},
		{"[[:punct:]]", set(33, 47, 58, 64, 91, 96, 123, 126)},
		{"[[:xdigit:]]", set('0', '9', 'A', 'F', 'a', 'f')},
		{"[^[:alpha:][:digit:]]", set(0, '/', ':', '@', '[', '`', '{', 255)},
		{"[[:digit:]-z]", set('-', '-', '0', '9', 'z', 'z')},
		{"[x[:digit:]]", set('0', '9', 'x', 'x')},
		{"[][:digit:]]", set('0', '9', ']', ']')},
	}
	for _, c := range cases {
		r := parsed(t, c.pattern)
		if len(r.Branches) != 1 || !sameNodes(r.Branches[0].Nodes, list(c.want)) {
			t.Errorf("%q gives %v, want %v", c.pattern, r, c.want)
		}
		if !impl.RuleOK(r) {
			t.Errorf("%q isn't OK", c.pattern)
		}
	}
}

func canonical(set []impl.Range) bool {
	for i, r := range set {
		if r.Lo < 0 || r.Lo > r.Hi || r.Hi > 255 || i > 0 && r.Lo < set[i-1].Hi+2 {
			return false
		}
	}
	return true
}

// openings lists the groups in the order in which they open, from left to right.
func (t *tree) openings() []int {
	var out []int
	if t.node.Kind == impl.KindGroup {
		out = append(out, t.node.Group)
	}
	for _, p := range t.parts {
		out = append(out, p.openings()...)
	}
	return out
}

func TestEveryAcceptedPatternIsOK(t *testing.T) {
	rnd := rand.New(rand.NewSource(2))
	seen := 0
	for range 100000 {
		p := randomText(rnd, `aab((()))||*+?[]^-{2}\.`, 16)
		r, code, _ := impl.ParseERE(p)
		if code != impl.ErrNone {
			continue
		}
		seen++
		if !impl.RuleOK(r) || r.Groups != strings.Count(tokensAlone(p), "(") {
			t.Fatalf("%q gives %v", p, r)
		}
		var opened []int
		for _, b := range r.Branches {
			opened = append(opened, grow(b.Nodes).openings()...)
			for _, n := range b.Nodes {
				if !canonical(n.Set) {
					t.Fatalf("%q has the set %v", p, n.Set)
				}
			}
		}
		for i, g := range opened {
			if g != i+1 {
				t.Fatalf("%q opens its groups as %v", p, opened)
			}
		}
	}
	if seen < 1000 {
		t.Error("only", seen, "patterns were accepted")
	}
}

// tokensAlone leaves out escapes and brackets, so that what is left of ( are tokens. The pattern was accepted.
func tokensAlone(p string) string {
	out := ""
	for i := 0; i < len(p); i++ {
		switch p[i] {
		case '\\':
			i++
		case '[':
			i++
			if p[i] == '^' {
				i++
			}
			i += 1 + strings.Index(p[i+1:], "]") // the first item may be the byte ]
		default:
			out += p[i : i+1]
		}
	}
	return out
}

func TestAnswerSharesNothing(t *testing.T) {
	r := parsed(t, "..|[ab]{2}.")
	r.Branches[0].Nodes[0].Set[0] = impl.Range{Lo: 7, Hi: 8}
	_ = append(r.Branches[0].Nodes, char('x'))
	if !sameNodes(r.Branches[0].Nodes[1:2], list(set(0, 255))) || !sameNodes(r.Branches[1].Nodes[:1], list(set('a', 'b'))) {
		t.Error("two lists of one answer share memory:", r)
	}
	again := parsed(t, "..|[ab]{2}.")
	if !sameNodes(again.Branches[0].Nodes[:1], list(set(0, 255))) {
		t.Error("two answers share memory:", again)
	}
}

func TestRuleOKBranchesAndGroups(t *testing.T) {
	a := char('a')
	many := func(n int) impl.Rule {
		r := impl.Rule{}
		for range n {
			r.Branches = append(r.Branches, impl.Branch{Nodes: list(a)})
		}
		return r
	}
	grouped := func(n int) impl.Rule {
		nodes := list(a)
		for g := range n {
			nodes = append(nodes, group(g+1))
		}
		return rule(n, nodes...)
	}
	cases := []struct {
		name string
		r    impl.Rule
		ok   bool
	}{
		{"no branch", impl.Rule{}, false},
		{"an empty branch", impl.Rule{Branches: []impl.Branch{{}}}, false},
		{"a second branch that is empty", impl.Rule{Branches: []impl.Branch{{Nodes: list(a)}, {}}}, false},
		{"MaxPattern branches", many(impl.MaxPattern), true},
		{"MaxPattern+1 branches", many(impl.MaxPattern + 1), false},
		{"a negative number of groups", impl.Rule{Groups: -1, Branches: []impl.Branch{{Nodes: list(a)}}}, false},
		{"MaxGroups", grouped(impl.MaxGroups), true},
		{"MaxGroups+1", grouped(impl.MaxGroups + 1), false},
		{"too many groups told", rule(math.MaxInt, a), false},
		{"a group that isn't there", rule(1, a), false},
		{"a group that isn't told", rule(0, a, group(1)), false},
		{"group 0", rule(1, a, group(0)), false},
		{"a negative group", rule(1, a, group(-1)), false},
		{"a group above the number", rule(1, a, group(2)), false},
		{"a huge group", rule(1, a, group(math.MaxInt)), false},
		{"a group twice", rule(2, a, group(1), group(1)), false},
		{"a group twice, and all told", rule(2, a, group(1), group(2), group(2)), false},
		{"groups from the inside", rule(2, a, group(1), group(2)), true},
		{"groups from the right", rule(2, a, group(2), a, group(1), seq()), true},
		{"groups over branches", impl.Rule{Groups: 2, Branches: []impl.Branch{{Nodes: list(a, group(2))}, {Nodes: list(a, group(1))}}}, true},
		{"one group in two branches", impl.Rule{Groups: 2, Branches: []impl.Branch{{Nodes: list(a, group(1))}, {Nodes: list(a, group(1))}}}, false},
		{"anchors", impl.Rule{Branches: []impl.Branch{{Bol: true, Eol: true, Nodes: list(a)}}}, true},
	}
	for _, c := range cases {
		if impl.RuleOK(c.r) != c.ok {
			t.Error(c.name)
		}
	}
}

func piled(repeats int) []impl.Node {
	nodes := list(char('a'))
	for range repeats {
		nodes = append(nodes, repeat(1, 1))
	}
	return nodes
}

func TestRuleOKNodes(t *testing.T) {
	a := char('a')
	two := impl.Rule{Branches: []impl.Branch{{Nodes: piled(impl.MaxNodes - 2)}, {Nodes: list(a)}}}
	over := impl.Rule{Branches: []impl.Branch{{Nodes: piled(impl.MaxNodes - 1)}, {Nodes: list(a)}}}
	cases := []struct {
		name string
		r    impl.Rule
		ok   bool
	}{
		{"MaxNodes nodes", rule(0, piled(impl.MaxNodes-1)...), true},
		{"MaxNodes+1 nodes", rule(0, piled(impl.MaxNodes)...), false},
		{"MaxNodes nodes in two branches", two, true},
		{"MaxNodes+1 nodes in two branches", over, false},
		{"two parts left", rule(0, a, a), false},
		{"Seq of one", rule(0, a, seq()), false},
		{"Alt of one", rule(0, a, alt()), false},
		{"Seq of none", rule(0, seq()), false},
		{"Repeat of none", rule(0, repeat(0, 1)), false},
		{"Group of none", rule(1, group(1)), false},
		{"an operand that comes too late", rule(0, a, seq(), a), false},
		{"leaning to the left", rule(0, a, a, seq(), a, seq(), a, alt()), true},
		{"kind 0", rule(0, impl.Node{}), false},
		{"kind 6", rule(0, impl.Node{Kind: 6}), false},
		{"kind -1", rule(0, a, impl.Node{Kind: -1}), false},
		{"Set with Min", rule(0, impl.Node{Kind: impl.KindSet, Min: 1}), false},
		{"Set with Max", rule(0, impl.Node{Kind: impl.KindSet, Max: -1}), false},
		{"Set with Group", rule(0, impl.Node{Kind: impl.KindSet, Group: 1}), false},
		{"Seq with Min", rule(0, a, a, impl.Node{Kind: impl.KindSeq, Min: 1}), false},
		{"Seq with Max", rule(0, a, a, impl.Node{Kind: impl.KindSeq, Max: 1}), false},
		{"Seq with Group", rule(0, a, a, impl.Node{Kind: impl.KindSeq, Group: 1}), false},
		{"Seq with Set", rule(0, a, a, impl.Node{Kind: impl.KindSeq, Set: a.Set}), false},
		{"Alt with Max", rule(0, a, a, impl.Node{Kind: impl.KindAlt, Max: 1}), false},
		{"Alt with Set", rule(0, a, a, impl.Node{Kind: impl.KindAlt, Set: a.Set}), false},
		{"Alt with an empty list", rule(0, a, a, impl.Node{Kind: impl.KindAlt, Set: []impl.Range{}}), true},
		{"Repeat with Set", rule(0, a, impl.Node{Kind: impl.KindRepeat, Max: 1, Set: a.Set}), false},
		{"Repeat with Group", rule(0, a, impl.Node{Kind: impl.KindRepeat, Max: 1, Group: 1}), false},
		{"Group with Set", rule(1, a, impl.Node{Kind: impl.KindGroup, Group: 1, Set: a.Set}), false},
		{"Group with Min", rule(1, a, impl.Node{Kind: impl.KindGroup, Group: 1, Min: 1}), false},
		{"Group with Max", rule(1, a, impl.Node{Kind: impl.KindGroup, Group: 1, Max: 1}), false},
	}
	for _, c := range cases {
		if impl.RuleOK(c.r) != c.ok {
			t.Error(c.name)
		}
	}
}

func TestRuleOKSetsAndBounds(t *testing.T) {
	a := char('a')
	cases := []struct {
		name string
		r    impl.Rule
		ok   bool
	}{
		{"no byte", rule(0, set()), true},
		{"every byte", rule(0, set(0, 255)), true},
		{"ranges with a byte between", rule(0, set(0, 0, 2, 2, 255, 255)), true},
		{"ranges that touch", rule(0, set(0, 0, 1, 2)), false},
		{"ranges that meet", rule(0, set(0, 5, 5, 7)), false},
		{"ranges that descend", rule(0, set(9, 9, 2, 2)), false},
		{"a range from its end", rule(0, set(2, 1)), false},
		{"below 0", rule(0, set(-1, 1)), false},
		{"above 255", rule(0, set(250, 256)), false},
		{"far above", rule(0, set(0, math.MaxInt, 1, 2)), false},
		{"far below", rule(0, set(math.MinInt, 2)), false},
		{"none or more", rule(0, a, repeat(0, -1)), true},
		{"MaxCount", rule(0, a, repeat(impl.MaxCount, impl.MaxCount)), true},
		{"MaxCount or more", rule(0, a, repeat(impl.MaxCount, -1)), true},
		{"Min above MaxCount", rule(0, a, repeat(impl.MaxCount+1, -1)), false},
		{"Max above MaxCount", rule(0, a, repeat(0, impl.MaxCount+1)), false},
		{"Min above Max", rule(0, a, repeat(3, 2)), false},
		{"a negative Min", rule(0, a, repeat(-1, 2)), false},
		{"a negative Min without bound", rule(0, a, repeat(-1, -1)), false},
		{"Max -2", rule(0, a, repeat(0, -2)), false},
		{"a huge Max", rule(0, a, repeat(0, math.MaxInt)), false},
		{"weight MaxWeight", rule(0, a, repeat(250, 250), repeat(8, 8)), true},
		{"weight MaxWeight of Min and one", rule(0, a, repeat(250, 250), repeat(7, -1)), true},
		{"weight above it by a copy", rule(0, a, repeat(250, 250), repeat(8, -1)), false},
		{"weight above it by one", rule(0, a, repeat(250, 250), repeat(8, 8), a, alt()), false},
		{"weight of what is never read", rule(0, a, repeat(250, 250), repeat(9, 9), repeat(0, 0)), false},
		{"weight of sets that are empty", rule(0, set(), repeat(250, 250), repeat(0, 8)), true},
		{"weight of two branches", impl.Rule{Branches: []impl.Branch{
			{Nodes: list(a, repeat(250, 250), repeat(8, 8))}, {Nodes: list(a)}}}, false},
	}
	for _, c := range cases {
		if impl.RuleOK(c.r) != c.ok {
			t.Error(c.name)
		}
	}
	nodes := list(a)
	for range 1000 {
		nodes = append(nodes, repeat(64, 64)) // 64 to the 1000 is 0 in every machine word
	}
	if impl.RuleOK(rule(0, nodes...)) {
		t.Error("a weight that no word holds")
	}
}
