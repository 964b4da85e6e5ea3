package tests

import (
	"math/rand"
	"slices"

	"loop.example/s0007/impl"
)

// abTable is the table of the example in 3.2.
func abTable() impl.Table {
	return impl.Table{Classes: classesOf("ab"), Width: 3, Base: []int{0, 1, 3}, Default: []int{0, 0, 0},
		Tag: []int{-1, -1, 0}, End: []int{-1, -1, 0}, Next: []int{0, 1, 1, 2, 1}, Check: []int{-1, 0, 1, 1, 2}}
}

func tableLists(p impl.Table) [][]int {
	return [][]int{p.Classes, p.Base, p.Default, p.Tag, p.End, p.Next, p.Check}
}

func sameTable(x, y impl.Table) bool {
	return x.Width == y.Width && slices.EqualFunc(tableLists(x), tableLists(y), slices.Equal[[]int])
}

func copyTable(p impl.Table) impl.Table {
	return impl.Table{Width: p.Width, Classes: slices.Clone(p.Classes), Base: slices.Clone(p.Base),
		Default: slices.Clone(p.Default), Tag: slices.Clone(p.Tag), End: slices.Clone(p.End),
		Next: slices.Clone(p.Next), Check: slices.Clone(p.Check)}
}

func all(list []int, lo, hi int) bool {
	return !slices.ContainsFunc(list, func(x int) bool { return x < lo || x > hi })
}

// slowTableOK is TableOK by the words of 3.1.
func slowTableOK(p impl.Table) bool {
	n := len(p.Base)
	ok := len(p.Classes) == 256 && 1 <= p.Width && p.Width <= 256 && all(p.Classes, 0, p.Width-1)
	ok = ok && 1 <= n && n <= 4000 && len(p.Default) == n && len(p.Tag) == n && len(p.End) == n
	ok = ok && all(p.Base, 0, 59999) && all(p.Default, 0, n-1) && all(p.Tag, -1, 99) && all(p.End, -1, 99)
	ok = ok && len(p.Check) == len(p.Next) && len(p.Next) <= 60000 && all(p.Check, -1, n-1) && all(p.Next, 0, n-1)
	for k := 0; ok && k < len(p.Check); k++ {
		ok = p.Check[k] != -1 || p.Next[k] == 0
	}
	return ok
}

// slowLookup is Lookup by the words of 3.1, for a table that is OK.
func slowLookup(p impl.Table, state, char int) int {
	k := p.Base[state] + p.Classes[char]
	if k < len(p.Check) && p.Check[k] == state {
		return p.Next[k]
	}
	return p.Default[state]
}

// slowPack is Pack by the words of 3.2, for an automaton that is OK: one base after another, one slot after another.
func slowPack(d impl.Dfa) (impl.Table, int) {
	p := impl.Table{Classes: d.Classes, Width: d.Width, Tag: d.Tag, End: d.End}
	owner, entry, top := []int{}, []int{}, -1
	for s := range d.Tag {
		row := d.Next[s*d.Width : (s+1)*d.Width]
		often := make([]int, len(d.Tag))
		for _, to := range row {
			often[to]++
		}
		usual, most := -1, 0
		for to := range d.Tag {
			if often[to] > most {
				usual, most = to, often[to]
			}
		}
		base := 0
		for c := 0; c < len(row); c++ {
			if row[c] != usual && base+c < len(owner) && owner[base+c] != -1 {
				base, c = base+1, -1
			}
		}
		if most == len(row) {
			base = 0
		}
		p.Base, p.Default = append(p.Base, base), append(p.Default, usual)
		for c, to := range row {
			if to == usual {
				continue
			}
			for len(owner) <= base+c {
				owner, entry = append(owner, -1), append(entry, 0)
			}
			owner[base+c], entry[base+c], top = s, to, max(top, base+c)
		}
	}
	if top >= 60000 {
		return impl.Table{}, 2
	}
	p.Next, p.Check = entry, owner
	return p, 0
}

// slowImage is the image of an OK table by the table of 3.3.
func slowImage(p impl.Table) string {
	image := []byte("XDF1")
	two := func(x int) {
		if x == -1 {
			x = 65535
		}
		image = append(image, byte(x/256), byte(x%256))
	}
	two(len(p.Base))
	two(p.Width)
	two(len(p.Next))
	for _, class := range p.Classes {
		image = append(image, byte(class))
	}
	for s := range p.Base {
		two(p.Base[s])
		two(p.Default[s])
		two(p.Tag[s])
		two(p.End[s])
	}
	for k := range p.Next {
		two(p.Next[k])
		two(p.Check[k])
	}
	return summed(string(image))
}

// summed adds the sum of all bytes to them.
func summed(image string) string {
	sum := 0
	for i := 0; i < len(image); i++ {
		sum += int(image[i])
	}
	return image + string([]byte{byte(sum / 256 % 256), byte(sum % 256)})
}

// mended gives an image with its last two bytes made right.
func mended(image string) string { return summed(image[:len(image)-2]) }

// slowLoad is Load by the list of 3.4.
func slowLoad(image string) (impl.Table, int) {
	if len(image) < 268 {
		return impl.Table{}, 1
	}
	if image[0] != 'X' || image[1] != 'D' || image[2] != 'F' || image[3] != '1' {
		return impl.Table{}, 2
	}
	two := func(at int) int { return int(image[at])*256 + int(image[at+1]) }
	less := func(at int) int {
		if two(at) == 65535 {
			return -1
		}
		return two(at)
	}
	n, width, slots := two(4), two(6), two(8)
	if n == 0 || n > 4000 || width == 0 || width > 256 || slots > 60000 {
		return impl.Table{}, 3
	}
	if len(image) != 268+8*n+4*slots {
		return impl.Table{}, 4
	}
	if mended(image) != image {
		return impl.Table{}, 5
	}
	p := impl.Table{Width: width}
	for c := range 256 {
		p.Classes = append(p.Classes, int(image[10+c]))
	}
	for s := range n {
		at := 266 + 8*s
		p.Base, p.Default = append(p.Base, two(at)), append(p.Default, two(at+2))
		p.Tag, p.End = append(p.Tag, less(at+4)), append(p.End, less(at+6))
	}
	for k := range slots {
		at := 266 + 8*n + 4*k
		p.Next, p.Check = append(p.Next, two(at)), append(p.Check, less(at+2))
	}
	if !slowTableOK(p) {
		return impl.Table{}, 6
	}
	return p, 0
}

// randomTable makes an OK table, most of which no automaton would be packed to.
func randomTable(rnd *rand.Rand, states, slots int) impl.Table {
	p := impl.Table{Width: 1 + rnd.Intn(256)}
	for range 256 {
		p.Classes = append(p.Classes, rnd.Intn(p.Width))
	}
	for range states {
		base := rnd.Intn(slots + 1)
		if rnd.Intn(8) == 0 {
			base = 59999 - rnd.Intn(3)
		}
		p.Base = append(p.Base, min(base, 59999))
		p.Default = append(p.Default, rnd.Intn(states))
		p.Tag = append(p.Tag, rnd.Intn(101)-1)
		p.End = append(p.End, rnd.Intn(101)-1)
	}
	for range slots {
		owner, to := rnd.Intn(states+1)-1, 0
		if owner != -1 {
			to = rnd.Intn(states)
		}
		p.Next, p.Check = append(p.Next, to), append(p.Check, owner)
	}
	return p
}

// sparseDfa makes an automaton with so many states, in the rows of which about one entry in so many isn't the usual one.
func sparseDfa(rnd *rand.Rand, states, width, rare int) impl.Dfa {
	d := impl.Dfa{Width: width}
	for range 256 {
		d.Classes = append(d.Classes, rnd.Intn(width))
	}
	for range states {
		d.Tag = append(d.Tag, rnd.Intn(101)-1)
		d.End = append(d.End, rnd.Intn(101)-1)
		usual := rnd.Intn(states)
		for range width {
			to := usual
			if rnd.Intn(rare) == 0 {
				to = rnd.Intn(states)
			}
			d.Next = append(d.Next, to)
		}
	}
	return d
}

// fullDfa has 4000 states with 15 exceptions each, at the classes from first on; the layout has no hole after the first slots.
func fullDfa(first int) impl.Dfa {
	d := impl.Dfa{Width: 16, Classes: make([]int, 256)}
	for c := range d.Classes {
		d.Classes[c] = c % 16
	}
	for range impl.MaxStates {
		d.Tag = append(d.Tag, -1)
		d.End = append(d.End, -1)
		for class := range 16 {
			to := 0
			if first <= class && class < first+15 {
				to = 1 + class
			}
			d.Next = append(d.Next, to)
		}
	}
	return d
}
