package tests

import (
	"math/rand"
	"slices"
	"strings"
	"testing"

	"loop.example/s0007/impl"
)

// slowCapture is Capture by the words of 4.3, for an OK rule and offsets in order.
func slowCapture(r impl.Rule, text string, a, b int, closed bool) []impl.Pair {
	for _, branch := range r.Branches {
		if branch.Bol && a != 0 || branch.Eol && (!closed || b != len(text)) {
			continue
		}
		body := grow(branch.Nodes)
		if body.ends(text, a)[b] {
			spans := noSpans(r)
			spans[0] = impl.Pair{Start: a, End: b}
			body.place(text, a, b, spans)
			return spans
		}
	}
	return nil
}

func noSpans(r impl.Rule) []impl.Pair {
	return slices.Repeat([]impl.Pair{{Start: -1, End: -1}}, r.Groups+1)
}

func (t *tree) place(text string, i, j int, spans []impl.Pair) {
	switch t.node.Kind {
	case impl.KindGroup:
		spans[t.node.Group] = impl.Pair{Start: i, End: j}
		t.parts[0].place(text, i, j, spans)
	case impl.KindSeq:
		left, right := t.parts[0], t.parts[1]
		for k := j; k >= i; k-- {
			if left.ends(text, i)[k] && right.ends(text, k)[j] {
				left.place(text, i, k, spans)
				right.place(text, k, j, spans)
				return
			}
		}
		panic("a sequence that has no cut")
	case impl.KindAlt:
		if t.parts[0].ends(text, i)[j] {
			t.parts[0].place(text, i, j, spans)
		} else {
			t.parts[1].place(text, i, j, spans)
		}
	case impl.KindRepeat:
		t.parts[0].placeCopies(text, i, j, t.node.Min, t.node.Max, spans)
	}
}

// placeCopies places min to max copies of the tree, where max is -1 for no bound.
func (t *tree) placeCopies(text string, i, j, min, max int, spans []impl.Pair) {
	least, restMin, restMax := i, min, max
	switch {
	case min > 0:
		restMin--
		if max > 0 {
			restMax--
		}
	case max > 0:
		restMax--
	case max == 0 || i == j:
		return
	default:
		least = i + 1
	}
	for k := j; k >= least; k-- {
		if t.ends(text, i)[k] && t.copies(text, k, restMin, restMax)[j] {
			t.place(text, i, k, spans)
			t.placeCopies(text, k, j, restMin, restMax, spans)
			return
		}
	}
	if min > 0 || max < 0 {
		panic("copies that have no cut")
	}
}

func matcherOf(t *testing.T, patterns ...string) impl.Matcher {
	t.Helper()
	b := impl.Build(patterns, impl.MaxStates)
	if b.Code != impl.BuildOK {
		t.Fatalf("%q: %d, rule %d: %d at %d", patterns, b.Code, b.Rule, b.Why, b.Offset)
	}
	return b.M
}

// slowNext is Next by the words of 4.6, for a matcher and a session that are OK and a State of the table.
func slowNext(m impl.Matcher, s impl.Session) (impl.Session, impl.Answer) {
	q := s.State
	for b := s.Scanned; b <= len(s.Buf); b++ {
		if b > s.Scanned {
			q = slowLookup(m.Table, q, int(s.Buf[b-1]))
		}
		i := m.Table.Tag[q]
		if s.Closed && b == len(s.Buf) {
			i = m.Table.End[q]
		}
		if i == -1 {
			continue
		}
		answer := impl.Answer{Kind: 1, Rule: i, Start: -1, End: b, Spans: noSpans(m.Rules[i])}
		for a := 0; a <= b; a++ {
			if slowMatch(m.Rules[i], s.Buf, a, b, s.Closed) {
				answer.Start = a
				answer.Spans = slowCapture(m.Rules[i], s.Buf, a, b, s.Closed)
				break
			}
		}
		return impl.Session{Limit: s.Limit, Buf: s.Buf[b:], Closed: s.Closed}, answer
	}
	s.Scanned, s.State = len(s.Buf), q
	if s.Closed {
		return s, impl.Answer{Kind: 3}
	}
	return s, impl.Answer{Kind: 2}
}

// slowFind is the answer to an asking by the last words of 4.7: it knows the rules and the bytes, and no table.
func slowFind(rules []impl.Rule, u string, closed bool) impl.Answer {
	for b := 0; b <= len(u); b++ {
		for i, r := range rules {
			for a := 0; a <= b; a++ {
				if slowMatch(r, u, a, b, closed) {
					return impl.Answer{Kind: 1, Rule: i, Start: a, End: b, Spans: slowCapture(r, u, a, b, closed)}
				}
			}
		}
	}
	if closed {
		return impl.Answer{Kind: 3}
	}
	return impl.Answer{Kind: 2}
}

// slowScript is RunOps by the words of 4.5 and 4.7, with find for the askings. find gives an answer to the bytes that
// aren't consumed, and how many of them it consumes are those before its End if it is a match.
func slowScript(limit int, ops []impl.Op, find func(u string, closed bool) impl.Answer) []impl.Answer {
	list := []impl.Answer{}
	u, closed := "", false
	for _, op := range ops {
		answer := impl.Answer{}
		switch {
		case op.Kind == 2:
			answer = find(u, closed)
			u = u[answer.End:]
		case op.Kind == 3:
			closed = true
			answer.Kind = 6
		case closed:
			answer = impl.Answer{Kind: 5, Rule: 2}
		case len(u)+len(op.Data) > limit:
			answer = impl.Answer{Kind: 5, Rule: 3}
		default:
			u += op.Data
			answer.Kind = 4
		}
		list = append(list, answer)
	}
	return list
}

func sameAnswer(x, y impl.Answer) bool {
	return x.Kind == y.Kind && x.Rule == y.Rule && x.Start == y.Start && x.End == y.End && slices.Equal(x.Spans, y.Spans)
}

func sameScript(x, y []impl.Answer) bool { return slices.EqualFunc(x, y, sameAnswer) }

func feed(data string) impl.Op { return impl.Op{Kind: impl.OpFeed, Data: data} }
func ask() impl.Op             { return impl.Op{Kind: impl.OpNext} }
func finish() impl.Op          { return impl.Op{Kind: impl.OpFinish} }

// spansOf gives the pairs a, b, a, b, ..
func spansOf(bounds ...int) []impl.Pair {
	spans := []impl.Pair{}
	for i := 0; i+1 < len(bounds); i += 2 {
		spans = append(spans, impl.Pair{Start: bounds[i], End: bounds[i+1]})
	}
	return spans
}

// groupedRule makes a rule by hand in which about every second part is a group.
func groupedRule(rnd *rand.Rand) impl.Rule {
	r := randomRule(rnd)
	total := r.Groups
	for i, b := range r.Branches {
		nodes := []impl.Node{}
		for _, n := range b.Nodes {
			nodes = append(nodes, n)
			if n.Kind != impl.KindGroup && rnd.Intn(2) == 0 {
				total++
				nodes = append(nodes, group(total))
			}
		}
		r.Branches[i].Nodes = nodes
	}
	numbers := rnd.Perm(total)
	for _, b := range r.Branches {
		for i := range b.Nodes {
			if b.Nodes[i].Kind == impl.KindGroup {
				b.Nodes[i].Group = numbers[b.Nodes[i].Group-1] + 1
			}
		}
	}
	r.Groups = total
	return r
}

// randomPattern makes a pattern of a few branches, some of them with anchors, and with groups in one another. It is short
// enough for the slow matcher.
func randomPattern(rnd *rand.Rand) string {
	for {
		if p := longPattern(rnd); len(p) <= 24 {
			return p
		}
	}
}

func longPattern(rnd *rand.Rand) string {
	branches := []string{}
	for range 1 + rnd.Intn(2) {
		b := randomSequence(rnd, 2)
		if rnd.Intn(5) == 0 {
			b = "^" + b
		}
		if rnd.Intn(5) == 0 {
			b += "$"
		}
		branches = append(branches, b)
	}
	return strings.Join(branches, "|")
}

func randomSequence(rnd *rand.Rand, depth int) string {
	text := ""
	for range 1 + rnd.Intn(3) {
		factor := []string{"a", "b", ".", "[ab]"}[rnd.Intn(4)]
		if depth > 0 && rnd.Intn(2) == 0 {
			factor = "(" + randomSequence(rnd, depth-1)
			for range rnd.Intn(3) {
				factor += "|" + randomSequence(rnd, depth-1)
			}
			factor += ")"
		}
		text += factor + []string{"", "", "", "*", "+", "?", "{0,2}", "{2}", "{1,}", "{0}"}[rnd.Intn(10)]
	}
	return text
}

// cuttings gives the same bytes cut into chunks in several ways; some chunks are empty.
func cuttings(rnd *rand.Rand, bytes string) [][]string {
	single, pairs, shuffled := []string{}, []string{""}, []string{}
	for i := range len(bytes) {
		single = append(single, bytes[i:i+1])
	}
	for i := 0; i < len(bytes); i += 2 {
		pairs = append(pairs, bytes[i:min(i+2, len(bytes))], "")
	}
	for rest := bytes; rest != ""; {
		n := rnd.Intn(min(len(rest), 5) + 1)
		shuffled = append(shuffled, rest[:n])
		rest = rest[n:]
	}
	return [][]string{{bytes}, single, pairs, shuffled}
}
