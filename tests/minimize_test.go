package tests

import (
	"math/rand"
	"testing"

	"loop.example/s0007/impl"
)

// abDfa is the automaton of the example in 2.4.
func abDfa() impl.Dfa {
	return impl.Dfa{Classes: classesOf("ab"), Width: 3, Next: []int{0, 1, 0, 0, 1, 2, 0, 1, 0},
		Tag: []int{-1, -1, 0}, End: []int{-1, -1, 0}}
}

// wideDfa has a class for each byte and n states, each of which leads to the next; the last one leads to itself.
func wideDfa(n int) impl.Dfa {
	d := impl.Dfa{Width: 256}
	for c := range 256 {
		d.Classes = append(d.Classes, c)
	}
	for s := range n {
		d.Tag = append(d.Tag, -1)
		d.End = append(d.End, -1)
		for range 256 {
			d.Next = append(d.Next, min(s+1, n-1))
		}
	}
	return d
}

func TestDfaOK(t *testing.T) {
	change := func(f func(d *impl.Dfa)) impl.Dfa {
		d := abDfa()
		f(&d)
		return d
	}
	good := map[string]impl.Dfa{
		"the example":        abDfa(),
		"greatest answers":   change(func(d *impl.Dfa) { d.Tag[0], d.End[1] = 99, 99 }),
		"tag without end":    change(func(d *impl.Dfa) { d.Tag[0], d.End[0] = 3, -1 }),
		"a class unused":     change(func(d *impl.Dfa) { d.Classes = classesOf("a") }),
		"states unreachable": change(func(d *impl.Dfa) { d.Next = []int{0, 0, 0, 0, 0, 0, 0, 0, 0} }),
		"one state":          {Classes: make([]int, 256), Width: 1, Next: []int{0}, Tag: []int{-1}, End: []int{-1}},
		"most states":        wideDfa(impl.MaxStates),
	}
	for name, d := range good {
		if !impl.DfaOK(d) {
			t.Error("should be OK:", name)
		}
	}
	for name, d := range wrongDfas(change) {
		if impl.DfaOK(d) {
			t.Error("should not be OK:", name)
		}
		if impl.RunDfa(d, 0, "") != -1 || impl.RunDfa(d, 0, "ab") != -1 {
			t.Error("runs, though it isn't OK:", name)
		}
		if !sameDfa(impl.Minimize(d), impl.Dfa{}) {
			t.Error("has a smallest, though it isn't OK:", name)
		}
	}
}

func wrongDfas(change func(func(d *impl.Dfa)) impl.Dfa) map[string]impl.Dfa {
	return map[string]impl.Dfa{
		"nothing":           {},
		"few classes":       change(func(d *impl.Dfa) { d.Classes = d.Classes[:255] }),
		"many classes":      change(func(d *impl.Dfa) { d.Classes = append(d.Classes, 0) }),
		"no classes":        change(func(d *impl.Dfa) { d.Classes = nil }),
		"width 0":           change(func(d *impl.Dfa) { d.Width, d.Next, d.Classes = 0, nil, make([]int, 256) }),
		"width -3":          change(func(d *impl.Dfa) { d.Width = -3 }),
		"width 257":         change(func(d *impl.Dfa) { d.Width, d.Next = 257, make([]int, 3*257) }),
		"class -1":          change(func(d *impl.Dfa) { d.Classes[255] = -1 }),
		"class above width": change(func(d *impl.Dfa) { d.Classes[0] = 3 }),
		"no states":         change(func(d *impl.Dfa) { d.Next, d.Tag, d.End = nil, nil, nil }),
		"many states":       wideDfa(impl.MaxStates + 1),
		"few ends":          change(func(d *impl.Dfa) { d.End = d.End[:2] }),
		"many ends":         change(func(d *impl.Dfa) { d.End = append(d.End, -1) }),
		"few tags":          change(func(d *impl.Dfa) { d.Tag = d.Tag[:2] }),
		"short next":        change(func(d *impl.Dfa) { d.Next = d.Next[:8] }),
		"long next":         change(func(d *impl.Dfa) { d.Next = append(d.Next, 0) }),
		"next -1":           change(func(d *impl.Dfa) { d.Next[8] = -1 }),
		"next n":            change(func(d *impl.Dfa) { d.Next[0] = 3 }),
		"tag -2":            change(func(d *impl.Dfa) { d.Tag[2] = -2 }),
		"tag 100":           change(func(d *impl.Dfa) { d.Tag[0] = 100 }),
		"end -2":            change(func(d *impl.Dfa) { d.End[0] = -2 }),
		"end 100":           change(func(d *impl.Dfa) { d.End[2] = 100 }),
	}
}

func TestRunDfa(t *testing.T) {
	d := abDfa()
	for _, x := range []struct {
		from int
		text string
		want int
	}{
		{0, "", 0}, {1, "", 1}, {2, "", 2}, {0, "ab", 2}, {0, "xxaab", 2}, {1, "b", 2}, {2, "b", 0}, {2, "ba", 1},
		{0, "\x00\xff", 0}, {3, "", -1}, {3, "a", -1}, {-1, "", -1}, {-1, "ab", -1},
	} {
		if got := impl.RunDfa(d, x.from, x.text); got != x.want {
			t.Errorf("from %d by %q to %d, want %d", x.from, x.text, got, x.want)
		}
	}
	long := wideDfa(impl.MaxStates)
	if got := impl.RunDfa(long, 0, string(make([]byte, impl.MaxStates-2))); got != impl.MaxStates-2 {
		t.Error(got)
	}
}

func TestMinimizeByHand(t *testing.T) {
	// States 0 and 2 are alike, and so are 1 and 3; 4 can't be reached by a byte, though class 2 leads there.
	d := impl.Dfa{Classes: classesOf("b"), Width: 3, Next: []int{2, 1, 4, 2, 3, 4, 0, 3, 0, 0, 1, 4, 0, 0, 0},
		Tag: []int{-1, 5, -1, 5, 7}, End: []int{2, 5, 2, 5, 7}}
	given := copyDfa(d)
	want := impl.Dfa{Classes: classesOf("b"), Width: 2, Next: []int{0, 1, 0, 1}, Tag: []int{-1, 5}, End: []int{2, 5}}
	if m := impl.Minimize(d); !sameDfa(m, want) {
		t.Error(m)
	}
	if !sameDfa(d, given) {
		t.Error("the argument has changed")
	}
	// Two states that differ in End alone, and two that differ in Tag alone.
	for _, answers := range [][2][]int{{{0, 0}, {0, 1}}, {{0, -1}, {4, 4}}} {
		d = impl.Dfa{Classes: make([]int, 256), Width: 1, Next: []int{1, 0}, Tag: answers[0], End: answers[1]}
		if m := impl.Minimize(d); !sameDfa(m, d) {
			t.Error(m)
		}
	}
	if m := impl.Minimize(abDfa()); !sameDfa(m, abDfa()) {
		t.Error(m)
	}
}

// The walk takes the bytes in ascending order, whatever the numbers of the classes and of the states are.
func TestMinimizeNumbers(t *testing.T) {
	d := impl.Dfa{Classes: make([]int, 256), Width: 4, Tag: []int{-1, 1, 2, 3}, End: []int{-1, -1, -1, -1}}
	for c := range d.Classes {
		d.Classes[c] = 3 - c/64
	}
	d.Next = []int{1, 2, 3, 0, 0, 0, 0, 1, 0, 0, 0, 2, 0, 0, 0, 3}
	m := impl.Minimize(d)
	want := impl.Dfa{Classes: make([]int, 256), Width: 4, Tag: []int{-1, 3, 2, 1}, End: []int{-1, -1, -1, -1},
		Next: []int{0, 1, 2, 3, 1, 0, 0, 0, 2, 0, 0, 0, 3, 0, 0, 0}}
	for c := range want.Classes {
		want.Classes[c] = c / 64
	}
	if !sameDfa(m, want) {
		t.Error(m)
	}
}

func TestMinimizeAtRandom(t *testing.T) {
	rnd := rand.New(rand.NewSource(7))
	smaller := 0
	for range 600 {
		d := randomDfa(rnd)
		given := copyDfa(d)
		m := impl.Minimize(d)
		if !sameDfa(d, given) {
			t.Fatal("the argument has changed")
		}
		checkSmallest(t, m)
		if !sameAnswers(d, 0, m, 0) {
			t.Fatalf("other answers: %v gives %v", d, m)
		}
		if !sameDfa(impl.Minimize(m), m) {
			t.Fatalf("done again it changes: %v", m)
		}
		if len(m.Tag) < len(d.Tag) && len(m.Tag) > 1 {
			smaller++
		}
	}
	if smaller < 50 {
		t.Error("too few automata with alike states:", smaller)
	}
}

func TestMinimizeTheGreatest(t *testing.T) {
	n := impl.MaxStates
	d := wideDfa(n)
	if m := impl.Minimize(d); len(m.Tag) != 1 || m.Width != 1 {
		t.Error("all alike:", len(m.Tag), m.Width)
	}
	d.End[n-1] = 99
	m := impl.Minimize(d)
	if len(m.Tag) != n || m.Width != 1 || m.Next[0] != 1 || m.Next[n-1] != n-1 || m.End[n-1] != 99 || m.End[n-2] != -1 {
		t.Error("a chain:", len(m.Tag), m.Width)
	}
	steps := map[int]bool{}
	for c := range 256 {
		step := (c + 1) * (c + 1) % n
		steps[step] = true
		for s := range n {
			d.Next[s*256+c] = (s + step) % n
		}
	}
	m = impl.Minimize(d)
	if len(m.Tag) != n || m.Width != len(steps) || !sameAnswers(d, 0, m, 0) || !sameDfa(impl.Minimize(m), m) {
		t.Error("a circle:", len(m.Tag), m.Width)
	}
}

// Numbers that end in the same byte are still two states.
func TestMinimizeTellsFarStatesApart(t *testing.T) {
	d := wideDfa(300)
	d.Tag[299] = 0
	for c := range 256 {
		d.Next[299*256+c] = 257
	}
	d.Next[299*256+'a'] = 1
	m := impl.Minimize(d)
	if len(m.Tag) != 300 || m.Width != 2 || m.Next[598] != 257 || m.Next[599] != 1 || m.Classes['a'] != 1 {
		t.Error(len(m.Tag), m.Width)
	}
}

func TestMinimizeGivesNewMemory(t *testing.T) {
	d := abDfa()
	m := impl.Minimize(d)
	lists := [][]int{d.Classes, d.Next, d.Tag, d.End, m.Classes, m.Next, m.Tag, m.End}
	for i, list := range lists {
		for k := range list {
			list[k] = 1000 + i
		}
	}
	for i, list := range lists {
		for k := range list {
			if list[k] != 1000+i {
				t.Fatal("lists share memory:", i)
			}
		}
	}
}
