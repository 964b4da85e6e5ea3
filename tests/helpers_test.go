package tests

import (
	"math/rand"
	"testing"

	"loop.example/s0007/impl"
)

// set gives a Set node of the ranges lo, hi, lo, hi, ..
func set(bounds ...int) impl.Node {
	n := impl.Node{Kind: impl.KindSet}
	for i := 0; i+1 < len(bounds); i += 2 {
		n.Set = append(n.Set, impl.Range{Lo: bounds[i], Hi: bounds[i+1]})
	}
	return n
}

func char(c byte) impl.Node            { return set(int(c), int(c)) }
func group(g int) impl.Node            { return impl.Node{Kind: impl.KindGroup, Group: g} }
func repeat(min, max int) impl.Node    { return impl.Node{Kind: impl.KindRepeat, Min: min, Max: max} }
func seq() impl.Node                   { return impl.Node{Kind: impl.KindSeq} }
func alt() impl.Node                   { return impl.Node{Kind: impl.KindAlt} }
func list(ns ...impl.Node) []impl.Node { return ns }

func rule(groups int, nodes ...impl.Node) impl.Rule {
	return impl.Rule{Groups: groups, Branches: []impl.Branch{{Nodes: nodes}}}
}

func parsed(t *testing.T, pattern string) impl.Rule {
	t.Helper()
	r, code, at := impl.ParseERE(pattern)
	if code != impl.ErrNone || at != 0 {
		t.Fatalf("%q is refused with %d at %d", pattern, code, at)
	}
	return r
}

func sameSet(x, y []impl.Range) bool {
	if len(x) != len(y) {
		return false
	}
	for i := range x {
		if x[i] != y[i] {
			return false
		}
	}
	return true
}

func sameNodes(x, y []impl.Node) bool {
	if len(x) != len(y) {
		return false
	}
	for i, a := range x {
		b := y[i]
		if a.Kind != b.Kind || a.Min != b.Min || a.Max != b.Max || a.Group != b.Group || !sameSet(a.Set, b.Set) {
			return false
		}
	}
	return true
}

// tree is a node with what it takes, for the slow matcher below.
type tree struct {
	node  impl.Node
	parts []*tree
}

func grow(nodes []impl.Node) *tree {
	var stack []*tree
	for _, n := range nodes {
		take := 0
		switch n.Kind {
		case impl.KindSeq, impl.KindAlt:
			take = 2
		case impl.KindRepeat, impl.KindGroup:
			take = 1
		}
		rest := len(stack) - take
		t := &tree{node: n, parts: append([]*tree{}, stack[rest:]...)}
		stack = append(stack[:rest], t)
	}
	return stack[0]
}

// ends gives the offsets k such that text[i:k) is in the language of the tree, by the words of 1.6 and nothing clever.
func (t *tree) ends(text string, i int) map[int]bool {
	switch t.node.Kind {
	case impl.KindSet:
		for _, r := range t.node.Set {
			if i < len(text) && r.Lo <= int(text[i]) && int(text[i]) <= r.Hi {
				return map[int]bool{i + 1: true}
			}
		}
		return map[int]bool{}
	case impl.KindSeq:
		return follow(t.parts[0].ends(text, i), func(k int) map[int]bool { return t.parts[1].ends(text, k) })
	case impl.KindAlt:
		return join(t.parts[0].ends(text, i), t.parts[1].ends(text, i))
	case impl.KindRepeat:
		return t.parts[0].copies(text, i, t.node.Min, t.node.Max)
	}
	return t.parts[0].ends(text, i)
}

func (t *tree) copies(text string, i, min, max int) map[int]bool {
	rest := max
	if max > 0 {
		rest = max - 1
	}
	switch {
	case min > 0:
		return follow(t.ends(text, i), func(k int) map[int]bool { return t.copies(text, k, min-1, rest) })
	case max > 0:
		more := follow(t.ends(text, i), func(k int) map[int]bool { return t.copies(text, k, 0, rest) })
		return join(more, map[int]bool{i: true})
	case max == 0:
		return map[int]bool{i: true}
	}
	reached := map[int]bool{i: true}
	for grown := -1; grown != len(reached); {
		grown = len(reached)
		for k := i; k <= len(text); k++ {
			if reached[k] {
				reached = join(reached, t.ends(text, k))
			}
		}
	}
	return reached
}

func join(x, y map[int]bool) map[int]bool {
	out := map[int]bool{}
	for k := range x {
		out[k] = true
	}
	for k := range y {
		out[k] = true
	}
	return out
}

func follow(x map[int]bool, next func(int) map[int]bool) map[int]bool {
	out := map[int]bool{}
	for k := range x {
		out = join(out, next(k))
	}
	return out
}

// slowMatch is MatchSpan for an OK rule and offsets in order, by the words of 1.6.
func slowMatch(r impl.Rule, text string, a, b int, closed bool) bool {
	for _, branch := range r.Branches {
		if branch.Bol && a != 0 || branch.Eol && (!closed || b != len(text)) {
			continue
		}
		if grow(branch.Nodes).ends(text, a)[b] {
			return true
		}
	}
	return false
}

// randomRule makes a rule by hand: groups in any order, empty sets, sequences that lean to either side.
func randomRule(rnd *rand.Rand) impl.Rule {
	r := impl.Rule{}
	for range 1 + rnd.Intn(3) {
		b := impl.Branch{Bol: rnd.Intn(4) == 0, Eol: rnd.Intn(4) == 0}
		b.Nodes = randomNodes(rnd, 1+rnd.Intn(7), &r.Groups)
		r.Branches = append(r.Branches, b)
	}
	numbers := rnd.Perm(r.Groups)
	for _, b := range r.Branches {
		for i := range b.Nodes {
			if b.Nodes[i].Kind == impl.KindGroup {
				b.Nodes[i].Group = numbers[b.Nodes[i].Group-1] + 1
			}
		}
	}
	return r
}

func randomNodes(rnd *rand.Rand, size int, groups *int) []impl.Node {
	if size <= 1 {
		sets := []impl.Node{char('a'), char('b'), set('a', 'b'), set(), set(0, 255), set(0, 'a', 'c', 255)}
		return list(sets[rnd.Intn(len(sets))])
	}
	switch rnd.Intn(6) {
	case 0:
		*groups++
		g := *groups
		return append(randomNodes(rnd, size-1, groups), group(g))
	case 1:
		bounds := [][2]int{{0, -1}, {0, 1}, {1, -1}, {0, 0}, {1, 1}, {2, 3}, {0, 2}, {2, -1}, {2, 2}}
		b := bounds[rnd.Intn(len(bounds))]
		return append(randomNodes(rnd, size-1, groups), repeat(b[0], b[1]))
	case 2, 3:
		left := randomNodes(rnd, size/2, groups)
		return append(append(left, randomNodes(rnd, size-size/2, groups)...), alt())
	}
	left := 1 + rnd.Intn(size-1)
	nodes := randomNodes(rnd, left, groups)
	return append(append(nodes, randomNodes(rnd, size-left, groups)...), seq())
}

func randomText(rnd *rand.Rand, alphabet string, most int) string {
	text := make([]byte, rnd.Intn(most+1))
	for i := range text {
		text[i] = alphabet[rnd.Intn(len(alphabet))]
	}
	return string(text)
}
