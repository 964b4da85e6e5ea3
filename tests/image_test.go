package tests

import (
	"math/rand"
	"strings"
	"testing"

	"loop.example/s0007/impl"
)

// abImage is the image of the example's table, byte by byte.
func abImage() string {
	classes := strings.Repeat("\x00", 97) + "\x01\x02" + strings.Repeat("\x00", 157)
	return "XDF1" + "\x00\x03" + "\x00\x03" + "\x00\x05" + classes +
		"\x00\x00\x00\x00\xff\xff\xff\xff" + "\x00\x01\x00\x00\xff\xff\xff\xff" + "\x00\x03\x00\x00\x00\x00\x00\x00" +
		"\x00\x00\xff\xff" + "\x00\x01\x00\x00" + "\x00\x01\x00\x01" + "\x00\x02\x00\x01" + "\x00\x01\x00\x02" + "\x0b\x24"
}

// with gives the image with other bytes at an offset; its sum is left as it was.
func with(image string, at int, bytes string) string {
	return image[:at] + bytes + image[at+len(bytes):]
}

func TestImageOfTheExample(t *testing.T) {
	if got := impl.Encode(abTable()); got != abImage() {
		t.Errorf("%q", got)
	}
	if p, code := impl.Load(abImage()); code != impl.LoadOK || !sameTable(p, abTable()) {
		t.Error(code, p)
	}
}

// checkThere holds the image of an OK table against 3.3, and what it is read back as against the table.
func checkThere(t *testing.T, p impl.Table) {
	t.Helper()
	given := copyTable(p)
	image := impl.Encode(p)
	if !sameTable(p, given) {
		t.Fatal("the argument has changed")
	}
	if image != slowImage(p) || len(image) != 268+8*len(p.Base)+4*len(p.Next) {
		t.Fatalf("%d states, %d slots, width %d: another image", len(p.Base), len(p.Next), p.Width)
	}
	if back, code := impl.Load(image); code != impl.LoadOK || !sameTable(back, p) {
		t.Fatalf("%d states, %d slots, width %d: read back with code %d", len(p.Base), len(p.Next), p.Width, code)
	}
}

func TestImagesThereAndBack(t *testing.T) {
	rnd := rand.New(rand.NewSource(14))
	for range 400 {
		checkThere(t, randomTable(rnd, 1+rnd.Intn(10), rnd.Intn(40)))
		if p, code := impl.Pack(randomDfa(rnd)); code == impl.PackOK {
			checkThere(t, p)
		}
	}
	checkThere(t, randomTable(rnd, impl.MaxStates, impl.MaxSlots))
	checkThere(t, randomTable(rnd, 300, 0))
	checkThere(t, randomTable(rnd, 1, 70))
	for _, d := range []impl.Dfa{fullDfa(0), wideDfa(impl.MaxStates), wideDfa(1)} {
		p, code := impl.Pack(d)
		if code != impl.PackOK {
			t.Fatal(code)
		}
		checkThere(t, p)
	}
}

func TestImageOfTheSmallestTable(t *testing.T) {
	p := impl.Table{Classes: make([]int, 256), Width: 1, Base: []int{0}, Default: []int{0}, Tag: []int{-1}, End: []int{-1}}
	image := impl.Encode(p)
	want := "XDF1\x00\x01\x00\x01\x00\x00" + strings.Repeat("\x00", 256) + "\x00\x00\x00\x00\xff\xff\xff\xff\x05\x11"
	if image != want {
		t.Errorf("%q", image)
	}
	checkThere(t, p)
}

func TestImageEdges(t *testing.T) {
	p := abTable()
	p.Base = []int{impl.MaxSlots - 1, 256, 255}
	p.Tag, p.End = []int{99, -1, 0}, []int{-1, 99, 98}
	checkThere(t, p)
	// Every class of 256, and a sum far above 65535: the classes alone give 32640, each base 329.
	wide := impl.Table{Width: 256}
	for c := range 256 {
		wide.Classes = append(wide.Classes, 255-c)
	}
	for range 400 {
		wide.Base = append(wide.Base, impl.MaxSlots-1)
		wide.Default = append(wide.Default, 399)
		wide.Tag = append(wide.Tag, -1)
		wide.End = append(wide.End, -1)
	}
	checkThere(t, wide)
	image := impl.Encode(wide)
	if image[:12] != "XDF1\x01\x90\x01\x00\x00\x00\xff\xfe" {
		t.Errorf("%q", image[:12])
	}
	// The sum, counted by hand: 275 of the magic, 145 and 1 of the counts, the classes, and 234+95, 1+143 and 4*255 for each state.
	sum := (275 + 145 + 1 + 32640 + 400*(234+95+1+143+1020)) % 65536
	if end := image[len(image)-2:]; int(end[0])*256+int(end[1]) != sum {
		t.Errorf("%q, want %d", end, sum)
	}
}

// checkLoad holds what Load gives against 3.4, and against the image if it is accepted.
func checkLoad(t *testing.T, name, image string) int {
	t.Helper()
	p, code := impl.Load(image)
	want, wantCode := slowLoad(image)
	if code != wantCode || !sameTable(p, want) {
		t.Fatalf("%s: code %d, want %d: %v", name, code, wantCode, p)
	}
	if code == impl.LoadOK && (!impl.TableOK(p) || impl.Encode(p) != image) {
		t.Fatalf("%s: accepted, and isn't the image of its table", name)
	}
	return code
}

func TestLoadCodes(t *testing.T) {
	good := abImage()
	for _, x := range []struct {
		name, image string
		code        int
	}{
		{"nothing", "", impl.LoadShort},
		{"the magic alone", "XDF1", impl.LoadShort},
		{"267 bytes", good[:267], impl.LoadShort},
		{"267 bytes with other magic", with(good[:267], 0, "Z"), impl.LoadShort},
		{"268 zeros", string(make([]byte, 268)), impl.LoadMagic},
		{"first of the magic", with(good, 0, "x"), impl.LoadMagic},
		{"second of the magic", with(good, 1, "E"), impl.LoadMagic},
		{"third of the magic", with(good, 2, "G"), impl.LoadMagic},
		{"fourth of the magic", with(good, 3, "2"), impl.LoadMagic},
		{"magic and counts", with(good, 3, "2\xff\xff"), impl.LoadMagic},
		{"magic and length", with(good, 0, "x") + "x", impl.LoadMagic},
		{"no states", with(good, 4, "\x00\x00"), impl.LoadCounts},
		{"4001 states", with(good, 4, "\x0f\xa1"), impl.LoadCounts},
		{"65535 states", with(good, 4, "\xff\xff"), impl.LoadCounts},
		{"width 0", with(good, 6, "\x00\x00"), impl.LoadCounts},
		{"width 257", with(good, 6, "\x01\x01"), impl.LoadCounts},
		{"width 65535", with(good, 6, "\xff\xff"), impl.LoadCounts},
		{"60001 slots", with(good, 8, "\xea\x61"), impl.LoadCounts},
		{"65535 slots", with(good, 8, "\xff\xff"), impl.LoadCounts},
		{"counts and length", with(good, 4, "\x00\x00") + "y", impl.LoadCounts},
		{"4000 states", with(good, 4, "\x0f\xa0"), impl.LoadLength},
		{"60000 slots", with(good, 8, "\xea\x60"), impl.LoadLength},
		{"268 bytes", good[:268], impl.LoadLength},
		{"a byte too few", good[:311], impl.LoadLength},
		{"a byte too many", good + "\x00", impl.LoadLength},
		{"length and sum", with(good, 20, "\x01") + "\x00", impl.LoadLength},
		{"high byte of the sum", with(good, 310, "\x0c"), impl.LoadSum},
		{"low byte of the sum", with(good, 311, "\x25"), impl.LoadSum},
		{"sum of no byte left out", with(good, 10, "\x01"), impl.LoadSum},
		{"sum and field", with(good, 10, "\x03"), impl.LoadSum},
		{"width 256 changes the sum", with(good, 6, "\x01\x00"), impl.LoadSum},
		{"all is well", good, impl.LoadOK},
	} {
		if code := checkLoad(t, x.name, x.image); code != x.code {
			t.Error(x.name, code)
		}
	}
}

// The offsets are those of the example's image: the classes from 10, the states from 266, the slots from 290.
func TestLoadFields(t *testing.T) {
	for _, x := range []struct {
		name  string
		at    int
		bytes string
		code  int
	}{
		{"a class of width", 10, "\x03", impl.LoadField},
		{"the last class 255", 265, "\xff", impl.LoadField},
		{"a class below width", 10, "\x02", impl.LoadOK},
		{"width 2 below a class", 6, "\x00\x02", impl.LoadField},
		{"width 256", 6, "\x01\x00", impl.LoadOK},
		{"greatest base", 266, "\xea\x5f", impl.LoadOK},
		{"base MaxSlots", 266, "\xea\x60", impl.LoadField},
		{"base 65535", 282, "\xff\xff", impl.LoadField},
		{"greatest default", 268, "\x00\x02", impl.LoadOK},
		{"default n", 268, "\x00\x03", impl.LoadField},
		{"default 65535", 268, "\xff\xff", impl.LoadField},
		{"greatest tag", 270, "\x00\x63", impl.LoadOK},
		{"tag 100", 270, "\x00\x64", impl.LoadField},
		{"tag 65534", 270, "\xff\xfe", impl.LoadField},
		{"tag -1", 286, "\xff\xff", impl.LoadOK},
		{"greatest end", 272, "\x00\x63", impl.LoadOK},
		{"end 100", 272, "\x00\x64", impl.LoadField},
		{"end 65534", 272, "\xff\xfe", impl.LoadField},
		{"end -1", 288, "\xff\xff", impl.LoadOK},
		{"next n", 294, "\x00\x03", impl.LoadField},
		{"next 65535", 294, "\xff\xff", impl.LoadField},
		{"next 2", 294, "\x00\x02", impl.LoadOK},
		{"next of nobody", 290, "\x00\x01", impl.LoadField},
		{"check n", 296, "\x00\x03", impl.LoadField},
		{"check 65534", 296, "\xff\xfe", impl.LoadField},
		{"check -1 over a next", 296, "\xff\xff", impl.LoadField},
		{"check -1 over no next", 294, "\x00\x00\xff\xff", impl.LoadOK},
		{"a check for nobody's slot", 292, "\x00\x02", impl.LoadOK},
	} {
		if code := checkLoad(t, x.name, mended(with(abImage(), x.at, x.bytes))); code != x.code {
			t.Error(x.name, code)
		}
	}
}

func TestLoadAtRandom(t *testing.T) {
	rnd := rand.New(rand.NewSource(15))
	codes := map[int]int{}
	for range 6000 {
		image := []byte(slowImage(randomTable(rnd, 1+rnd.Intn(4), rnd.Intn(6))))
		for range 1 + rnd.Intn(2) {
			at := rnd.Intn(len(image))
			if rnd.Intn(3) == 0 {
				at = rnd.Intn(10)
			}
			image[at] = byte(rnd.Intn(256))
			if rnd.Intn(2) == 0 {
				image[at] = byte(rnd.Intn(3))
			}
		}
		text := string(image)
		if rnd.Intn(4) > 0 {
			text = mended(text)
		}
		if rnd.Intn(20) == 0 {
			text = text[:rnd.Intn(len(text)+1)]
		}
		codes[checkLoad(t, "changed", text)]++
	}
	for code := impl.LoadOK; code <= impl.LoadField; code++ {
		if codes[code] < 20 {
			t.Error("too few with code", code, codes[code])
		}
	}
}

// An image whose counts are bent to one another still has to fit in every other line.
func TestLoadBentCounts(t *testing.T) {
	good := abImage()
	body := good[10:310]
	for n := 0; n <= 40; n++ {
		slots := (len(body) - 256 - 8*n) / 4
		if slots < 0 {
			break
		}
		image := summed("XDF1" + string([]byte{0, byte(n), 0, 3, 0, byte(slots)}) + body)
		checkLoad(t, "bent counts", image)
	}
}

func TestLoadGivesNewMemory(t *testing.T) {
	p, _ := impl.Load(abImage())
	checkApart(t, tableLists(p))
	if q, code := impl.Load(abImage()); code != impl.LoadOK || !sameTable(q, abTable()) {
		t.Error("a second table hangs on the first:", code, q)
	}
}
