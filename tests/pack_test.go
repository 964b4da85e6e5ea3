package tests

import (
	"math/rand"
	"testing"

	"loop.example/s0007/impl"
)

// checkPacked holds the table of an OK automaton against 3.2, and where it leads against the automaton.
func checkPacked(t *testing.T, d impl.Dfa) impl.Table {
	t.Helper()
	given := copyDfa(d)
	p, code := impl.Pack(d)
	if !sameDfa(d, given) {
		t.Fatal("the argument has changed")
	}
	want, wantCode := slowPack(d)
	if code != wantCode || !sameTable(p, want) {
		t.Fatalf("code %d, want %d; %d states, width %d: got %v, want %v", code, wantCode, len(d.Tag), d.Width, p, want)
	}
	if code != impl.PackOK {
		return p
	}
	if !impl.TableOK(p) {
		t.Fatalf("not OK: %v", p)
	}
	for s := range d.Tag {
		for c := range 256 {
			if slowLookup(p, s, c) != goes(d, s, c) {
				t.Fatalf("from %d by %d to %d, want %d", s, c, slowLookup(p, s, c), goes(d, s, c))
			}
		}
	}
	return p
}

func TestPackTheExample(t *testing.T) {
	p, code := impl.Pack(abDfa())
	if code != impl.PackOK || !sameTable(p, abTable()) {
		t.Error(code, p)
	}
	checkPacked(t, abDfa())
}

func TestPackByHand(t *testing.T) {
	for name, x := range map[string]struct {
		width                               int
		row, usual, base, wantNext, wantOwn []int
	}{
		"a row of one entry":     {1, []int{1, 0}, []int{1, 0}, []int{0, 0}, nil, nil},
		"no exceptions at all":   {2, []int{1, 1, 0, 0}, []int{1, 0}, []int{0, 0}, nil, nil},
		"a tie":                  {2, []int{1, 0, 0, 1}, []int{0, 0}, []int{0, 0}, []int{1, 1}, []int{0, 1}},
		"a tie of two and two":   {4, []int{1, 0, 1, 0, 0, 0, 1, 1}, []int{0, 0}, []int{0, 1}, []int{1, 0, 1, 1, 1}, []int{0, -1, 0, 1, 1}},
		"most, not the smallest": {3, []int{1, 0, 1, 0, 0, 0}, []int{1, 0}, []int{0, 0}, []int{0, 0}, []int{-1, 0}},
		"none after a full slot": {2, []int{0, 1, 1, 1}, []int{0, 1}, []int{0, 0}, []int{0, 1}, []int{-1, 0}},
		"a hole is filled":       {3, []int{1, 0, 1, 0, 1, 1, 1, 1, 0}, []int{1, 1, 1}, []int{0, 0, 0}, []int{0, 0, 0}, []int{1, 0, 2}},
	} {
		n := len(x.row) / x.width
		d := impl.Dfa{Classes: make([]int, 256), Width: x.width, Next: x.row, Tag: make([]int, n), End: make([]int, n)}
		p, code := impl.Pack(d)
		want := impl.Table{Classes: d.Classes, Width: x.width, Base: x.base, Default: x.usual, Tag: d.Tag, End: d.End,
			Next: x.wantNext, Check: x.wantOwn}
		if code != impl.PackOK || !sameTable(p, want) {
			t.Errorf("%s: %d %v, want %v", name, code, p, want)
		}
		checkPacked(t, d)
	}
}

// Automata that aren't minimal, with equal rows, states that can't be reached, and classes that no byte has.
func TestPackAtRandom(t *testing.T) {
	rnd := rand.New(rand.NewSource(8))
	holes := 0
	for range 600 {
		d := randomDfa(rnd)
		p := checkPacked(t, d)
		for _, owner := range p.Check {
			if owner == -1 {
				holes++
			}
		}
		for s := range d.Tag {
			for _, c := range []int{0, 1, 'a', 254, 255, rnd.Intn(256)} {
				if to := impl.Lookup(p, s, c); to != goes(d, s, c) {
					t.Fatalf("%v: from %d by %d to %d", d, s, c, to)
				}
			}
		}
	}
	if holes < 50 {
		t.Error("too few slots that nobody takes:", holes)
	}
}

// Unreachable states and classes without a byte count as any other: the layout is of the rows as they stand.
func TestPackTakesRowsAsTheyStand(t *testing.T) {
	d := impl.Dfa{Classes: make([]int, 256), Width: 4, Next: []int{0, 1, 1, 1, 0, 0, 0, 0, 2, 2, 1, 0},
		Tag: []int{-1, 3, 4}, End: []int{-1, -1, 99}}
	want := impl.Table{Classes: make([]int, 256), Width: 4, Base: []int{0, 0, 0}, Default: []int{1, 0, 2},
		Tag: []int{-1, 3, 4}, End: []int{-1, -1, 99}, Next: []int{0, 0, 1, 0}, Check: []int{0, -1, 2, 2}}
	if p, code := impl.Pack(d); code != impl.PackOK || !sameTable(p, want) {
		t.Error(code, p)
	}
}

func TestPackCompiled(t *testing.T) {
	for _, patterns := range [][]string{{"ab"}, {}, {"a*"}, {"^a|b$", "[a-m]+z"}, {"[0-9]{1,3}", "(x|y)*z", "[^a]b"}} {
		d, code := impl.Compile(parsedAll(t, patterns...), impl.MaxStates)
		if code != impl.CompileOK {
			t.Fatal(patterns, code)
		}
		checkPacked(t, d)
	}
}

func TestPackManyWidths(t *testing.T) {
	rnd := rand.New(rand.NewSource(9))
	for _, width := range []int{1, 2, 3, 63, 64, 65, 127, 128, 129, 255, 256} {
		for _, rare := range []int{2, 7, 40} {
			checkPacked(t, sparseDfa(rnd, 1+rnd.Intn(150), width, rare))
		}
	}
}

func TestPackMostStates(t *testing.T) {
	rnd := rand.New(rand.NewSource(10))
	d := sparseDfa(rnd, impl.MaxStates, 256, 30)
	p := checkPacked(t, d)
	if len(p.Base) != impl.MaxStates || len(p.Next) < 30000 {
		t.Error(len(p.Base), len(p.Next))
	}
	p = checkPacked(t, wideDfa(impl.MaxStates))
	if len(p.Next) != 0 || p.Default[0] != 1 || p.Width != 256 {
		t.Error(len(p.Next), p.Width)
	}
}

func TestPackUpToTheLastSlot(t *testing.T) {
	p := checkPacked(t, fullDfa(0))
	if len(p.Next) != impl.MaxSlots || p.Check[impl.MaxSlots-1] != impl.MaxStates-1 || p.Base[impl.MaxStates-1] != impl.MaxSlots-15 {
		t.Error("all slots taken:", len(p.Next))
	}
	// One class higher, slot 0 stays free and the last state needs slot MaxSlots.
	if p, code := impl.Pack(fullDfa(1)); code != impl.PackSlots || !sameTable(p, impl.Table{}) {
		t.Error("one slot too many:", code, len(p.Next))
	}
	d := fullDfa(1)
	d.Next[len(d.Next)-1] = 0
	p = checkPacked(t, d)
	if len(p.Next) != impl.MaxSlots || p.Check[0] != -1 {
		t.Error("14 exceptions in the last state:", len(p.Next))
	}
}

// The last state would find room in slot 0, but one before it doesn't.
func TestPackRefusesEarlierStates(t *testing.T) {
	d := fullDfa(1)
	n := len(d.Next)
	copy(d.Next[n-16:], []int{1, 0, 0, 0, 0, 0, 0, 0, 0, 0, 0, 0, 0, 0, 0, 0})
	p := checkPacked(t, d)
	if len(p.Next) != impl.MaxSlots-14 || p.Check[0] != impl.MaxStates-1 {
		t.Error(len(p.Next))
	}
	d.Width = 17
	d.Next = nil
	for s := range d.Tag {
		row := []int{0, 1, 2, 3, 4, 5, 6, 7, 8, 9, 10, 11, 12, 13, 14, 15, 16}
		if s == len(d.Tag)-1 {
			row = []int{1, 0, 0, 0, 0, 0, 0, 0, 0, 0, 0, 0, 0, 0, 0, 0, 0}
		}
		d.Next = append(d.Next, row...)
	}
	if p, code := impl.Pack(d); code != impl.PackSlots || !sameTable(p, impl.Table{}) {
		t.Error(code, len(p.Next))
	}
}

// 3750 states take every slot; the widest row, after them, finds none.
func TestPackIntoFullSlots(t *testing.T) {
	d := wideDfa(3751)
	for i := range d.Next {
		s, class := i/256, i%256
		d.Next[i] = 0
		if s < 3750 && class < 16 || s == 3750 && class > 0 {
			d.Next[i] = 1 + class
		}
	}
	if p, code := impl.Pack(d); code != impl.PackSlots || !sameTable(p, impl.Table{}) {
		t.Error(code, len(p.Next))
	}
	clear(d.Next[3750*256:])
	if p := checkPacked(t, d); len(p.Next) != impl.MaxSlots || p.Base[3749] != impl.MaxSlots-16 || p.Base[3750] != 0 {
		t.Error(len(p.Next))
	}
}

func TestPackWrong(t *testing.T) {
	change := func(f func(d *impl.Dfa)) impl.Dfa {
		d := abDfa()
		f(&d)
		return d
	}
	wrong := wrongDfas(change)
	big := fullDfa(1)
	big.End[0] = -2
	wrong["too many slots as well"] = big
	for name, d := range wrong {
		if p, code := impl.Pack(d); code != impl.PackDfa || !sameTable(p, impl.Table{}) {
			t.Error("packed, though it isn't OK:", name, code, p)
		}
	}
}

func TestPackGivesNewMemory(t *testing.T) {
	d := abDfa()
	p, _ := impl.Pack(d)
	checkApart(t, append(tableLists(p), d.Classes, d.Next, d.Tag, d.End))
}

// checkApart says whether two of the lists share memory; it overwrites them.
func checkApart(t *testing.T, lists [][]int) {
	t.Helper()
	for i, list := range lists {
		list = list[:cap(list)]
		for k := range list {
			list[k] = 1000 + i
		}
	}
	for i, list := range lists {
		for _, x := range list[:cap(list)] {
			if x != 1000+i {
				t.Fatal("lists share memory:", i)
			}
		}
	}
}

func TestTableOK(t *testing.T) {
	change := func(f func(p *impl.Table)) impl.Table {
		p := abTable()
		f(&p)
		return p
	}
	rnd := rand.New(rand.NewSource(11))
	good := map[string]impl.Table{
		"the example":           abTable(),
		"greatest answers":      change(func(p *impl.Table) { p.Tag[0], p.End[1] = 99, 99 }),
		"tag without end":       change(func(p *impl.Table) { p.Tag[0], p.End[0] = 3, -1 }),
		"a class unused":        change(func(p *impl.Table) { p.Classes = classesOf("a") }),
		"greatest base":         change(func(p *impl.Table) { p.Base[0] = impl.MaxSlots - 1 }),
		"a slot of another":     change(func(p *impl.Table) { p.Check[1] = 2 }),
		"greatest default":      change(func(p *impl.Table) { p.Default[0] = 2 }),
		"no slots":              change(func(p *impl.Table) { p.Next, p.Check = nil, nil }),
		"one state":             {Classes: make([]int, 256), Width: 1, Base: []int{0}, Default: []int{0}, Tag: []int{-1}, End: []int{-1}},
		"most states and slots": randomTable(rnd, impl.MaxStates, impl.MaxSlots),
	}
	for name, p := range good {
		given := copyTable(p)
		if !impl.TableOK(p) {
			t.Error("should be OK:", name)
		}
		if !sameTable(p, given) {
			t.Error("the argument has changed:", name)
		}
	}
	for name, p := range wrongTables(change) {
		if impl.TableOK(p) || slowTableOK(p) {
			t.Error("should not be OK:", name)
		}
		for s := -1; s < 4; s++ {
			if impl.Lookup(p, s, 'a') != -1 {
				t.Error("leads somewhere, though it isn't OK:", name)
			}
		}
		if impl.Encode(p) != "" {
			t.Error("has an image, though it isn't OK:", name)
		}
	}
}

func wrongTables(change func(func(p *impl.Table)) impl.Table) map[string]impl.Table {
	rnd := rand.New(rand.NewSource(12))
	return map[string]impl.Table{
		"nothing":             {},
		"few classes":         change(func(p *impl.Table) { p.Classes = p.Classes[:255] }),
		"many classes":        change(func(p *impl.Table) { p.Classes = append(p.Classes, 0) }),
		"no classes":          change(func(p *impl.Table) { p.Classes = nil }),
		"width 0":             change(func(p *impl.Table) { p.Width, p.Classes = 0, make([]int, 256) }),
		"width -3":            change(func(p *impl.Table) { p.Width = -3 }),
		"width 257":           change(func(p *impl.Table) { p.Width = 257 }),
		"class -1":            change(func(p *impl.Table) { p.Classes[255] = -1 }),
		"class above width":   change(func(p *impl.Table) { p.Classes[0] = 3 }),
		"no states":           change(func(p *impl.Table) { p.Base, p.Default, p.Tag, p.End, p.Next, p.Check = nil, nil, nil, nil, nil, nil }),
		"many states":         randomTable(rnd, impl.MaxStates+1, 5),
		"few bases":           change(func(p *impl.Table) { p.Base = p.Base[:2] }),
		"many bases":          change(func(p *impl.Table) { p.Base = append(p.Base, 0) }),
		"few defaults":        change(func(p *impl.Table) { p.Default = p.Default[:2] }),
		"many defaults":       change(func(p *impl.Table) { p.Default = append(p.Default, 0) }),
		"few tags":            change(func(p *impl.Table) { p.Tag = p.Tag[:2] }),
		"many tags":           change(func(p *impl.Table) { p.Tag = append(p.Tag, 0) }),
		"few ends":            change(func(p *impl.Table) { p.End = p.End[:2] }),
		"many ends":           change(func(p *impl.Table) { p.End = append(p.End, 0) }),
		"base -1":             change(func(p *impl.Table) { p.Base[2] = -1 }),
		"base MaxSlots":       change(func(p *impl.Table) { p.Base[0] = impl.MaxSlots }),
		"default -1":          change(func(p *impl.Table) { p.Default[0] = -1 }),
		"default n":           change(func(p *impl.Table) { p.Default[2] = 3 }),
		"tag -2":              change(func(p *impl.Table) { p.Tag[2] = -2 }),
		"tag 100":             change(func(p *impl.Table) { p.Tag[0] = 100 }),
		"end -2":              change(func(p *impl.Table) { p.End[0] = -2 }),
		"end 100":             change(func(p *impl.Table) { p.End[2] = 100 }),
		"few checks":          change(func(p *impl.Table) { p.Check = p.Check[:4] }),
		"many checks":         change(func(p *impl.Table) { p.Check = append(p.Check, -1) }),
		"few nexts":           change(func(p *impl.Table) { p.Next = p.Next[:4] }),
		"many nexts":          change(func(p *impl.Table) { p.Next = append(p.Next, 0) }),
		"many slots":          randomTable(rnd, 3, impl.MaxSlots+1),
		"check -2":            change(func(p *impl.Table) { p.Check[0] = -2 }),
		"check n":             change(func(p *impl.Table) { p.Check[4] = 3 }),
		"next -1":             change(func(p *impl.Table) { p.Next[4] = -1 }),
		"next n":              change(func(p *impl.Table) { p.Next[1] = 3 }),
		"next of nobody":      change(func(p *impl.Table) { p.Next[0] = 1 }),
		"next of nobody last": change(func(p *impl.Table) { p.Check[4] = -1 }),
	}
}

func TestLookup(t *testing.T) {
	p := abTable()
	for _, x := range []struct{ state, char, want int }{
		{0, 'a', 1}, {0, 'b', 0}, {0, 0, 0}, {0, 255, 0}, {1, 'a', 1}, {1, 'b', 2}, {1, 'c', 0}, {2, 'a', 1}, {2, 'b', 0}, {2, 0, 0},
		{-1, 'a', -1}, {3, 'a', -1}, {0, -1, -1}, {0, 256, -1}, {-1, -1, -1}, {3, 256, -1}, {1 << 40, 'a', -1}, {0, -1 << 40, -1},
	} {
		if got := impl.Lookup(p, x.state, x.char); got != x.want {
			t.Errorf("from %d by %d to %d, want %d", x.state, x.char, got, x.want)
		}
	}
	if impl.Lookup(impl.Table{}, 0, 0) != -1 {
		t.Error("an empty table leads somewhere")
	}
}

// Tables of which no automaton was packed: a base far above the slots, a slot that belongs to a state by chance.
func TestLookupInTablesByHand(t *testing.T) {
	p := abTable()
	p.Default = []int{2, 1, 0}
	for base, want := range map[int]int{0: 1, 1: 2, 3: 2, 4: 2, 5: 2, impl.MaxSlots - 1: 2} {
		p.Base[0] = base
		if got := impl.Lookup(p, 0, 'a'); got != want {
			t.Errorf("base %d: to %d, want %d", base, got, want)
		}
	}
	p.Check[4] = 0
	for base, want := range map[int]int{0: 1, 1: 2, 2: 2, 3: 1, 4: 2} {
		p.Base[0] = base
		if got := impl.Lookup(p, 0, 'a'); got != want {
			t.Errorf("base %d: to %d, want %d", base, got, want)
		}
	}
	rnd := rand.New(rand.NewSource(13))
	for range 200 {
		p := randomTable(rnd, 1+rnd.Intn(5), rnd.Intn(300))
		for range 50 {
			s, c := rnd.Intn(len(p.Base)), rnd.Intn(256)
			if got := impl.Lookup(p, s, c); got != slowLookup(p, s, c) {
				t.Fatalf("%v: from %d by %d to %d", p, s, c, got)
			}
		}
	}
}
