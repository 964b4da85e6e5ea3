package tests

// What Build answers, which the promises 11 and 12 stand on.

import (
	"math"
	"reflect"
	"strings"
	"testing"

	"loop.example/s0007/impl"
)

func TestBuildIsParseCompilePack(t *testing.T) {
	for _, patterns := range append(lists, []string{"(a|b)c+|^d$", "(x)(y)*", "[^a-z]{2,3}"}) {
		b := impl.Build(patterns, impl.MaxStates)
		rules := parsedAll(t, patterns...)
		d, _ := impl.Compile(rules, impl.MaxStates)
		table, _ := impl.Pack(d)
		if b.Code != impl.BuildOK || b.Rule != 0 || b.Why != 0 || b.Offset != 0 {
			t.Fatalf("%q: %d %d %d %d", patterns, b.Code, b.Rule, b.Why, b.Offset)
		}
		if len(b.M.Rules) != len(rules) || len(rules) > 0 && !reflect.DeepEqual(b.M.Rules, rules) {
			t.Errorf("%q: other rules", patterns)
		}
		if !sameTable(b.M.Table, table) {
			t.Errorf("%q: another table", patterns)
		}
	}
}

func refused(b impl.Built, code, rule, why, offset int) bool {
	return b.Code == code && b.Rule == rule && b.Why == why && b.Offset == offset && b.M.Rules == nil && sameTable(b.M.Table, impl.Table{})
}

func TestBuildRefusals(t *testing.T) {
	many := make([]string, impl.MaxRules+1)
	for i := range many {
		many[i] = "a"
	}
	heavy := "(a{250}){8}"
	for i, x := range []struct {
		patterns                []string
		most                    int
		code, rule, why, offset int
	}{
		{many, 0, impl.BuildMany, 0, 0, 0},
		{append(many[:100:100], "("), 3, impl.BuildMany, 0, 0, 0},
		{[]string{"a"}, 0, impl.BuildMost, 0, 0, 0},
		{[]string{"a"}, -1, impl.BuildMost, 0, 0, 0},
		{[]string{"a"}, impl.MaxStates + 1, impl.BuildMost, 0, 0, 0},
		{[]string{"a"}, math.MaxInt, impl.BuildMost, 0, 0, 0},
		{[]string{"a"}, math.MinInt, impl.BuildMost, 0, 0, 0},
		{[]string{"("}, impl.MaxStates + 1, impl.BuildMost, 0, 0, 0},
		{nil, 0, impl.BuildMost, 0, 0, 0},
		{[]string{""}, 9, impl.BuildSyntax, 0, impl.ErrOperand, 0},
		{[]string{"a", "b[c", "d("}, 9, impl.BuildSyntax, 1, impl.ErrBracket, 1},
		{[]string{"a", "b", "cd(e"}, 9, impl.BuildSyntax, 2, impl.ErrOpen, 2},
		{[]string{"ab\\"}, 1, impl.BuildSyntax, 0, impl.ErrEscape, 2},
		{[]string{"a{250}{9}"}, 9, impl.BuildSyntax, 0, impl.ErrOperand, 6},
		{[]string{"(a{250}){9}"}, 9, impl.BuildSyntax, 0, impl.ErrWeight, 0},
		{[]string{heavy, heavy, "b", "*"}, 9, impl.BuildSyntax, 3, impl.ErrOperand, 0},
		{[]string{"a", strings.Repeat("b", 2001)}, 9, impl.BuildSyntax, 1, impl.ErrLong, 2000},
		{[]string{heavy, heavy, "b"}, 1, impl.BuildWeight, 0, 0, 0},
		{[]string{heavy, heavy, "b"}, impl.MaxStates, impl.BuildWeight, 0, 0, 0},
		{[]string{"a"}, 1, impl.BuildStates, 0, 0, 0},
		{nil, 1, impl.BuildStates, 0, 0, 0},
		{[]string{"a"}, 2, impl.BuildStates, 0, 0, 0},
		{[]string{"^" + heavy, "^(b{250}){8}"}, impl.MaxStates, impl.BuildStates, 0, 0, 0},
	} {
		if b := impl.Build(x.patterns, x.most); !refused(b, x.code, x.rule, x.why, x.offset) {
			t.Error(i, b.Code, b.Rule, b.Why, b.Offset, len(b.M.Rules), len(b.M.Table.Base))
		}
	}
}

func TestBuildEdges(t *testing.T) {
	many := make([]string, impl.MaxRules)
	for i := range many {
		many[i] = "a"
	}
	none := "((a{250}){8}){0}" // of weight 2000, and without a position
	for i, x := range []struct {
		patterns []string
		most     int
	}{
		{nil, 2}, {[]string{"a"}, 3}, {[]string{"ab"}, 4}, {many, 3}, {[]string{none, none}, 2},
		{[]string{"a"}, impl.MaxStates}, {[]string{"^(a{250}){8}", "^(b{222}){9}"}, impl.MaxStates},
	} {
		if b := impl.Build(x.patterns, x.most); b.Code != impl.BuildOK || len(b.M.Rules) != len(x.patterns) || !impl.TableOK(b.M.Table) {
			t.Error(i, b.Code)
		}
	}
}

// slotPatterns make rows that are too long together: every state leads to some state of its own by each of the many bytes
// with which a pattern begins, and so the rows are far from the usual.
func slotPatterns() []string {
	patterns := []string{}
	for i := range 90 {
		first := string([]byte{byte(130 + i)})
		patterns = append(patterns, first+strings.Repeat(string([]byte{byte(20 + i%3), 129}), 20))
	}
	return patterns
}

func TestBuildSlots(t *testing.T) {
	patterns := slotPatterns()
	if b := impl.Build(patterns, impl.MaxStates); !refused(b, impl.BuildSlots, 0, 0, 0) {
		t.Error(b.Code, len(b.M.Table.Next))
	}
	if b := impl.Build(patterns[:10], impl.MaxStates); b.Code != impl.BuildOK {
		t.Error(b.Code)
	}
}

func TestBuildGivesNewMemory(t *testing.T) {
	patterns := []string{"(a|b)c", "(a|b)c"}
	b := impl.Build(patterns, 100)
	checkApart(t, tableLists(b.M.Table))
	b = impl.Build(patterns, 100)
	b.M.Rules[0].Branches[0].Nodes[0].Set[0].Lo = 7
	again := impl.Build(patterns, 100)
	if !reflect.DeepEqual(b.M.Rules[1], again.M.Rules[0]) || !reflect.DeepEqual(again.M.Rules[0], parsed(t, patterns[0])) {
		t.Error("rules share memory")
	}
}
