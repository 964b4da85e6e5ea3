package tests

// Promise 14, its second half: CheckProgram.

import (
	"math/rand"
	"slices"
	"strings"
	"testing"

	"loop.example/s0007/impl"
)

// plain is a program of two states in which every action is there and nothing is wrong.
func plain() impl.Program {
	return program(10,
		impl.State{
			Cases:   []impl.Case{on("a(b)", goTo(1, `\0\1\\`)), on("c", exit(255, ""))},
			Timeout: 3, OnTimeout: goTo(0, "t"), Full: true, OnFull: exit(0, `f\\`), Eof: 255,
		},
		impl.State{Cases: []impl.Case{on("d", goTo(0, ""))}},
	)
}

// changed gives the plain program after a change.
func changed(change func(p *impl.Program, s *impl.State)) impl.Program {
	p := plain()
	change(&p, &p.States[0])
	return p
}

func TestCheckAcceptsShapesAtTheirBounds(t *testing.T) {
	long := strings.Repeat("x", impl.MaxTemplate)
	for i, p := range []impl.Program{
		plain(),
		changed(func(p *impl.Program, s *impl.State) { p.Limit = 1 }),
		changed(func(p *impl.Program, s *impl.State) { p.Limit = impl.MaxLimit }),
		changed(func(p *impl.Program, s *impl.State) { s.Timeout = impl.MaxTicks }),
		changed(func(p *impl.Program, s *impl.State) { s.Timeout, s.OnTimeout = 0, impl.Action{} }),
		changed(func(p *impl.Program, s *impl.State) { s.Full, s.OnFull = false, impl.Action{} }),
		changed(func(p *impl.Program, s *impl.State) { s.Timeout, s.OnTimeout = 1, impl.Action{} }),
		changed(func(p *impl.Program, s *impl.State) { s.OnFull = impl.Action{} }),
		changed(func(p *impl.Program, s *impl.State) { s.Cases = nil }),
		changed(func(p *impl.Program, s *impl.State) {
			s.Cases[0].Do.Send, s.OnTimeout.Send, s.OnFull.Send = long, long, long
		}),
		changed(func(p *impl.Program, s *impl.State) { s.Cases = slices.Repeat(s.Cases[:1], impl.MaxRules) }),
		changed(func(p *impl.Program, s *impl.State) { p.States = slices.Repeat(p.States[1:], impl.MaxDialog) }),
		program(1, impl.State{}),
	} {
		if code, state, item := impl.CheckProgram(p); code != impl.CheckOK || state != 0 || item != 0 {
			t.Errorf("%d: %d at state %d, item %d", i, code, state, item)
		}
	}
}

// misshapen has a program for each bound of each clause of the shape.
func misshapen() []impl.Program {
	long := strings.Repeat("x", impl.MaxTemplate+1)
	list := []impl.Program{
		{},
		changed(func(p *impl.Program, s *impl.State) { p.Limit = 0 }),
		changed(func(p *impl.Program, s *impl.State) { p.Limit = -1 }),
		changed(func(p *impl.Program, s *impl.State) { p.Limit = impl.MaxLimit + 1 }),
		changed(func(p *impl.Program, s *impl.State) { p.Most = 0 }),
		changed(func(p *impl.Program, s *impl.State) { p.Most = impl.MaxStates + 1 }),
		changed(func(p *impl.Program, s *impl.State) { p.States = nil }),
		changed(func(p *impl.Program, s *impl.State) { p.States = slices.Repeat(p.States[1:], impl.MaxDialog+1) }),
		changed(func(p *impl.Program, s *impl.State) { s.Cases = slices.Repeat(s.Cases[:1], impl.MaxRules+1) }),
		changed(func(p *impl.Program, s *impl.State) { s.Timeout = -1 }),
		changed(func(p *impl.Program, s *impl.State) { s.Timeout = impl.MaxTicks + 1 }),
		changed(func(p *impl.Program, s *impl.State) { s.Eof = -1 }),
		changed(func(p *impl.Program, s *impl.State) { s.Eof = 256 }),
		changed(func(p *impl.Program, s *impl.State) { s.Timeout = 0 }),
		changed(func(p *impl.Program, s *impl.State) { s.Full = false }),
		changed(func(p *impl.Program, s *impl.State) { s.Timeout, s.OnTimeout = 0, goTo(1, "") }),
		changed(func(p *impl.Program, s *impl.State) { s.Timeout, s.OnTimeout = 0, exit(0, "") }),
		changed(func(p *impl.Program, s *impl.State) { s.Full, s.OnFull = false, goTo(0, "x") }),
	}
	for _, bad := range []impl.Action{
		{Goto: -2}, {Goto: -1, Exit: -1}, {Goto: -1, Exit: 256}, {Goto: 0, Exit: 1}, {Goto: 1, Exit: -1}, goTo(0, long), exit(0, long),
	} {
		list = append(list,
			changed(func(p *impl.Program, s *impl.State) { s.Cases[0].Do = bad }),
			changed(func(p *impl.Program, s *impl.State) { s.Cases[1].Do = bad }),
			changed(func(p *impl.Program, s *impl.State) { s.OnTimeout = bad }),
			changed(func(p *impl.Program, s *impl.State) { s.OnFull = bad }),
			changed(func(p *impl.Program, s *impl.State) { p.States[1].Cases[0].Do = bad }))
	}
	return list
}

func TestCheckRefusesShapes(t *testing.T) {
	for i, p := range misshapen() {
		if code, state, item := impl.CheckProgram(p); code != impl.CheckShape || state != 0 || item != 0 {
			t.Errorf("%d: %d at state %d, item %d", i, code, state, item)
		}
		if len(p.States) == 0 {
			continue
		}
		p.States[0].Cases = slices.Clone(p.States[0].Cases)
		p.States[0].Cases[0].Pattern = "(" // the shape of all comes first
		if code, _, _ := impl.CheckProgram(p); code != impl.CheckShape {
			t.Errorf("%d with a bad pattern: %d", i, code)
		}
	}
}

func TestCheckFaultsOfCases(t *testing.T) {
	long := strings.Repeat("a", impl.MaxPattern+1)
	for _, c := range []struct {
		pattern string
		do      impl.Action
		code    int
	}{
		{"", goTo(0, ""), impl.CheckPattern}, {"(", goTo(0, ""), impl.CheckPattern}, {"a**", goTo(9, `\`), impl.CheckPattern},
		{"^$", goTo(0, ""), impl.CheckPattern}, {long, goTo(0, ""), impl.CheckPattern}, {"(a{200}){11}", goTo(0, ""), impl.CheckPattern},
		{"a*", goTo(0, ""), impl.CheckEmpty}, {"b|a?", goTo(9, `\`), impl.CheckEmpty}, {"^(a?)$", goTo(0, ""), impl.CheckEmpty},
		{"a|^b*|c", goTo(0, ""), impl.CheckEmpty}, {"a{0}", goTo(0, ""), impl.CheckEmpty}, {"(a|b*)(c*)+", goTo(0, ""), impl.CheckEmpty},
		{"a*$", exit(0, ""), impl.CheckEmpty}, {"(a?){255}", goTo(0, ""), impl.CheckEmpty},
		{"a", goTo(2, ""), impl.CheckTarget}, {"a", goTo(2, `\1`), impl.CheckTarget}, {"a", goTo(1<<62, ""), impl.CheckTarget},
		{"a", goTo(0, `\1`), impl.CheckTemplate}, {"(a)", goTo(0, `\2`), impl.CheckTemplate}, {"a", goTo(0, `\`), impl.CheckTemplate},
		{"a", exit(1, `\x`), impl.CheckTemplate}, {"a", goTo(0, `\\\`), impl.CheckTemplate}, {"((a))", goTo(0, `\3`), impl.CheckTemplate},
		{"a", goTo(0, `\0\ `), impl.CheckTemplate}, {"(a)|b", goTo(1, `\1\2`), impl.CheckTemplate},
		{"a", goTo(0, `\0`), impl.CheckOK}, {"(a)|(b)", goTo(1, `\2\1\0\\9`), impl.CheckOK}, {"a*b", exit(0, `\\\\x`), impl.CheckOK},
		{"a", goTo(0, "\x00\xff\n"), impl.CheckOK}, {"((((((((((a))))))))))", goTo(0, `\9`), impl.CheckOK}, {"[^\x01-\xff]", goTo(1, ""), impl.CheckOK},
	} {
		for state := range 2 {
			p := plain()
			s := &p.States[state]
			s.Cases = append(s.Cases, on(c.pattern, c.do))
			wantState, wantItem := state, len(s.Cases)-1
			if c.code == impl.CheckOK {
				wantState, wantItem = 0, 0
			}
			if code, q, item := impl.CheckProgram(p); code != c.code || q != wantState || item != wantItem {
				t.Errorf("%q %+v in state %d: %d at state %d, item %d", c.pattern, c.do, state, code, q, item)
			}
		}
	}
}

func TestCheckFaultsOfOtherActions(t *testing.T) {
	for _, c := range []struct {
		do   impl.Action
		code int
	}{
		{goTo(2, ""), impl.CheckTarget}, {goTo(2, `\0`), impl.CheckTarget}, {goTo(1, `\0`), impl.CheckTemplate},
		{exit(3, `\`), impl.CheckTemplate}, {goTo(0, `a\1`), impl.CheckTemplate}, {goTo(0, `\\\\a`), impl.CheckOK}, {exit(3, ""), impl.CheckOK},
	} {
		onTimeout := changed(func(p *impl.Program, s *impl.State) { s.OnTimeout = c.do })
		onFull := changed(func(p *impl.Program, s *impl.State) { s.OnFull = c.do })
		for i, p := range []impl.Program{onTimeout, onFull} {
			item := 2 + i
			if c.code == impl.CheckOK {
				item = 0
			}
			if code, q, at := impl.CheckProgram(p); code != c.code || q != 0 || at != item {
				t.Errorf("%+v, item %d: %d at state %d, item %d", c.do, item, code, q, at)
			}
		}
	}
}

func TestCheckFaultsOfBuilding(t *testing.T) {
	waiting := func(patterns ...string) impl.State {
		s := impl.State{}
		for _, pattern := range patterns {
			s.Cases = append(s.Cases, on(pattern, goTo(0, "")))
		}
		return s
	}
	most := func(most int, states ...impl.State) impl.Program {
		return impl.Program{Limit: 5, Most: most, States: states}
	}
	const heavy = "(a{200}){10}"
	for i, c := range []struct {
		p                 impl.Program
		code, state, item int
	}{
		{most(1, waiting()), impl.CheckBuild, 0, 2},
		{most(2, waiting()), impl.CheckOK, 0, 0},
		{most(3, waiting(), waiting("ab")), impl.CheckBuild, 1, 3},
		{most(4, waiting(), waiting("ab")), impl.CheckOK, 0, 0},
		{most(impl.MaxStates, waiting("a.{30}b")), impl.CheckBuild, 0, 3},
		{most(impl.MaxStates, waiting(slotPatterns()...)), impl.CheckBuild, 0, 92},
		{most(impl.MaxStates, waiting("b"), waiting(), waiting(heavy, heavy)), impl.CheckOK, 0, 0},
		{most(impl.MaxStates, waiting("b"), waiting(), waiting(heavy, heavy, "b")), impl.CheckBuild, 2, 5}, // too heavy together
	} {
		if code, state, item := impl.CheckProgram(c.p); code != c.code || state != c.state || item != c.item {
			t.Errorf("%d: %d at state %d, item %d", i, code, state, item)
		}
	}
}

// Each of these has two faults or more; the first one by the order of 5.3 is asked for.
func TestCheckFindsTheFirstFault(t *testing.T) {
	for i, c := range []struct {
		change            func(p *impl.Program, s *impl.State)
		code, state, item int
	}{
		{func(p *impl.Program, s *impl.State) { s.Cases[0].Do.Goto, s.Cases[1].Pattern = 5, "(" }, impl.CheckTarget, 0, 0},
		{func(p *impl.Program, s *impl.State) { s.Cases[1].Pattern, s.OnTimeout.Goto = "a*", 5 }, impl.CheckEmpty, 0, 1},
		{func(p *impl.Program, s *impl.State) { s.OnTimeout.Send, s.OnFull.Goto = `\`, -1 }, impl.CheckTemplate, 0, 2},
		{func(p *impl.Program, s *impl.State) { s.OnTimeout.Send, s.OnFull = `\0`, goTo(7, "") }, impl.CheckTemplate, 0, 2},
		{func(p *impl.Program, s *impl.State) { s.OnFull, p.Most = goTo(7, ""), 2 }, impl.CheckTarget, 0, 3},
		{func(p *impl.Program, s *impl.State) { p.States[1].Cases[0].Pattern, p.Most = "(", 2 }, impl.CheckBuild, 0, 4},
		{func(p *impl.Program, s *impl.State) { p.States[1].Cases[0].Pattern, s.OnFull.Send = "(", `\` }, impl.CheckTemplate, 0, 3},
		{func(p *impl.Program, s *impl.State) { p.States[1].Cases[0].Pattern, p.States[1].Eof = "(", 256 }, impl.CheckShape, 0, 0},
		{func(p *impl.Program, s *impl.State) { s.Cases[0].Pattern, p.States[1].Timeout = "(", -1 }, impl.CheckShape, 0, 0},
	} {
		if code, state, item := impl.CheckProgram(changed(c.change)); code != c.code || state != c.state || item != c.item {
			t.Errorf("%d: %d at state %d, item %d", i, code, state, item)
		}
	}
}

// spoil puts one fault into a program; sometimes it is none.
func spoil(rnd *rand.Rand, p *impl.Program) {
	s := &p.States[rnd.Intn(len(p.States))]
	actions := []*impl.Action{&s.OnTimeout, &s.OnFull}
	for i := range s.Cases {
		actions = append(actions, &s.Cases[i].Do)
	}
	a := actions[rnd.Intn(len(actions))]
	switch rnd.Intn(12) {
	case 0:
		a.Goto = rnd.Intn(6) - 2
	case 1, 2:
		a.Send += `\` + []string{"", "0", "1", "2", "x", `\`}[rnd.Intn(6)]
	case 3:
		a.Exit = rnd.Intn(3) * 128
	case 4:
		p.Most = 1 + rnd.Intn(12)
	case 5:
		s.Timeout = rnd.Intn(3) - 1
	case 6:
		s.Full = !s.Full
	case 7:
		s.Eof = 255 + rnd.Intn(2)
	default:
		if len(s.Cases) > 0 {
			s.Cases[rnd.Intn(len(s.Cases))].Pattern = []string{"(", "a*", "b|^a?$", "a", "()", "(a)"}[rnd.Intn(6)]
		}
	}
}

func TestCheckAgainstSlowCheck(t *testing.T) {
	rnd := rand.New(rand.NewSource(53))
	seen := map[int]int{}
	for range 4000 {
		p := randomProgram(rnd)
		for range rnd.Intn(4) {
			spoil(rnd, &p)
		}
		before := copyOf(p)
		code, state, item := impl.CheckProgram(p)
		wantCode, wantState, wantItem := slowCheck(p)
		if code != wantCode || state != wantState || item != wantItem {
			t.Fatalf("%+v: %d at state %d, item %d, not %d at state %d, item %d", p, code, state, item, wantCode, wantState, wantItem)
		}
		if !sameProgram(p, before) {
			t.Fatalf("%+v has become %+v", before, p)
		}
		seen[code]++
	}
	for code := impl.CheckOK; code <= impl.CheckBuild; code++ {
		if seen[code] < 30 {
			t.Error("the programs hardly ever give", code, seen)
		}
	}
}
