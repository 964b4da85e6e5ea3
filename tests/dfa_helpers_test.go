package tests

import (
	"math/rand"
	"slices"
	"strconv"
	"strings"
	"testing"

	"loop.example/s0007/impl"
)

// classesOf gives class 0 to all bytes but those of chars, which are 1, 2, ..
func classesOf(chars string) []int {
	classes := make([]int, 256)
	for i := 0; i < len(chars); i++ {
		classes[chars[i]] = i + 1
	}
	return classes
}

func sameDfa(x, y impl.Dfa) bool {
	return x.Width == y.Width && slices.Equal(x.Classes, y.Classes) && slices.Equal(x.Next, y.Next) &&
		slices.Equal(x.Tag, y.Tag) && slices.Equal(x.End, y.End)
}

func copyDfa(d impl.Dfa) impl.Dfa {
	return impl.Dfa{Width: d.Width, Classes: slices.Clone(d.Classes), Next: slices.Clone(d.Next),
		Tag: slices.Clone(d.Tag), End: slices.Clone(d.End)}
}

// goes is where byte c leads, by the words of 2.1.
func goes(d impl.Dfa, s, c int) int { return d.Next[s*d.Width+d.Classes[c]] }

// pairs walks all pairs of states that one text leads to, one in x and one in y.
func pairs(x impl.Dfa, fromX int, y impl.Dfa, fromY int) [][2]int {
	met := map[[2]int]bool{{fromX, fromY}: true}
	list := [][2]int{{fromX, fromY}}
	for i := 0; i < len(list); i++ {
		for c := 0; c < 256; c++ {
			to := [2]int{goes(x, list[i][0], c), goes(y, list[i][1], c)}
			if !met[to] {
				met[to] = true
				list = append(list, to)
			}
		}
	}
	return list
}

// sameAnswers says whether two states have the same two answers after every text.
func sameAnswers(x impl.Dfa, fromX int, y impl.Dfa, fromY int) bool {
	for _, p := range pairs(x, fromX, y, fromY) {
		if x.Tag[p[0]] != y.Tag[p[1]] || x.End[p[0]] != y.End[p[1]] {
			return false
		}
	}
	return true
}

// checkSmallest holds d against 2.2: no two states alike, all met by the walk in their order, classes by least byte.
func checkSmallest(t *testing.T, d impl.Dfa) {
	t.Helper()
	if !impl.DfaOK(d) {
		t.Fatalf("not OK: %v", d)
	}
	n := len(d.Tag)
	met := 1
	for s := 0; s < n && s < met; s++ {
		for c := 0; c < 256; c++ {
			to := goes(d, s, c)
			if to > met {
				t.Fatalf("state %d is met ahead of %d: %v", to, met, d)
			}
			if to == met {
				met++
			}
		}
	}
	if met != n {
		t.Fatalf("only %d of %d states can be reached: %v", met, n, d)
	}
	for s := 0; s < n; s++ {
		for u := 0; u < s; u++ {
			if sameAnswers(d, s, d, u) {
				t.Fatalf("states %d and %d are alike: %v", u, s, d)
			}
		}
	}
	checkClasses(t, d)
}

func checkClasses(t *testing.T, d impl.Dfa) {
	t.Helper()
	known := 0
	for c := 0; c < 256; c++ {
		if d.Classes[c] > known {
			t.Fatalf("byte %d has class %d, and only %d came before it: %v", c, d.Classes[c], known, d)
		}
		if d.Classes[c] == known {
			known++
		}
	}
	if known != d.Width {
		t.Fatalf("width %d, and the bytes have %d classes: %v", d.Width, known, d)
	}
	for c := 0; c < d.Width; c++ {
		for k := 0; k < c; k++ {
			differ := false
			for s := range d.Tag {
				differ = differ || d.Next[s*d.Width+c] != d.Next[s*d.Width+k]
			}
			if !differ {
				t.Fatalf("classes %d and %d lead to the same states: %v", k, c, d)
			}
		}
	}
}

// slowAnswers gives tag(w) and end(w) by the words of 2.3.
func slowAnswers(rules []impl.Rule, w string) (tag, end int) {
	tag, end = -1, -1
	for i := len(rules) - 1; i >= 0; i-- {
		for _, b := range rules[i].Branches {
			body := grow(b.Nodes)
			for a := 0; a <= len(w); a++ {
				if b.Bol && a > 0 || !body.ends(w, a)[len(w)] {
					continue
				}
				end = i
				if !b.Eol {
					tag = i
				}
			}
		}
	}
	return tag, end
}

// words gives all texts over the alphabet of at most so many bytes.
func words(alphabet string, most int) []string {
	list := []string{""}
	for from := 0; most > 0; most-- {
		to := len(list)
		for ; from < to; from++ {
			for i := 0; i < len(alphabet); i++ {
				list = append(list, list[from]+alphabet[i:i+1])
			}
		}
	}
	return list
}

// graph is a list of rules written out as 2.4 says. A node either takes a byte and leads to one other, or takes none
// and leads to any number of others.
type graph struct {
	takes []bool
	sets  [][]impl.Range
	to    [][]int
}

func (g *graph) node(takes bool, set []impl.Range, to ...int) int {
	g.takes = append(g.takes, takes)
	g.sets = append(g.sets, set)
	g.to = append(g.to, to)
	return len(g.to) - 1
}

// write adds what the tree stands for, in front of the node to, and gives the node where it begins.
func (g *graph) write(t *tree, to int) int {
	switch t.node.Kind {
	case impl.KindSet:
		return g.node(true, t.node.Set, to)
	case impl.KindSeq:
		return g.write(t.parts[0], g.write(t.parts[1], to))
	case impl.KindAlt:
		return g.node(false, nil, g.write(t.parts[0], to), g.write(t.parts[1], to))
	case impl.KindGroup:
		return g.write(t.parts[0], to)
	}
	begin := to
	if t.node.Max == -1 {
		begin = g.node(false, nil, to)
		g.to[begin] = append(g.to[begin], g.write(t.parts[0], begin))
	}
	for range t.node.Max - t.node.Min {
		begin = g.node(false, nil, g.write(t.parts[0], begin), to)
	}
	for range t.node.Min {
		begin = g.write(t.parts[0], begin)
	}
	return begin
}

// takers adds to found the nodes that may take byte c next, at node at or after it.
func (g *graph) takers(at int, c byte, seen, found map[int]bool) {
	if seen[at] {
		return
	}
	seen[at] = true
	if !g.takes[at] {
		for _, to := range g.to[at] {
			g.takers(to, c, seen, found)
		}
		return
	}
	for _, r := range g.sets[at] {
		if r.Lo <= int(c) && int(c) <= r.Hi {
			found[at] = true
		}
	}
}

// countSets counts the position sets of a list of rules; the alphabet has a byte of every sort that the rules know.
func countSets(rules []impl.Rule, alphabet string) int {
	g := &graph{}
	var start, later []int
	for _, r := range rules {
		for _, b := range r.Branches {
			begin := g.write(grow(b.Nodes), g.node(false, nil))
			start = append(start, begin)
			if !b.Bol {
				later = append(later, begin)
			}
		}
	}
	met := map[string]bool{}
	work := [][]int{start}
	for len(work) > 0 {
		from := work[0]
		work = work[1:]
		for i := 0; i < len(alphabet); i++ {
			seen, found := map[int]bool{}, map[int]bool{}
			for _, at := range from {
				g.takers(at, alphabet[i], seen, found)
			}
			next := slices.Clone(later)
			key := []string{}
			for at := range g.takes {
				if found[at] {
					next = append(next, g.to[at]...)
					key = append(key, strconv.Itoa(at))
				}
			}
			if text := strings.Join(key, " "); !met[text] {
				met[text] = true
				work = append(work, next)
			}
		}
	}
	return 1 + len(met)
}

func parsedAll(t *testing.T, patterns ...string) []impl.Rule {
	t.Helper()
	rules := []impl.Rule{}
	for _, p := range patterns {
		rules = append(rules, parsed(t, p))
	}
	return rules
}

// randomDfa makes an OK automaton with few answers, so that some states are alike; some classes may have no byte.
func randomDfa(rnd *rand.Rand) impl.Dfa {
	n, answers := 1+rnd.Intn(12), 1+rnd.Intn(3)
	d := impl.Dfa{Width: 1 + rnd.Intn(4), Classes: make([]int, 256)}
	for c := range d.Classes {
		d.Classes[c] = rnd.Intn(d.Width)
	}
	if rnd.Intn(3) == 0 {
		unused, other := rnd.Intn(d.Width), rnd.Intn(d.Width)
		for c := range d.Classes {
			if d.Classes[c] == unused {
				d.Classes[c] = other
			}
		}
	}
	targets := 1 + rnd.Intn(n)
	for range n {
		d.Tag = append(d.Tag, rnd.Intn(answers)-1)
		d.End = append(d.End, rnd.Intn(answers)-1)
		for range d.Width {
			d.Next = append(d.Next, rnd.Intn(targets))
		}
	}
	return d
}
