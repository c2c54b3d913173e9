package sup_test

import (
	"bytes"
	"math"
	"slices"
	"testing"

	"quartermaster/api"
	"quartermaster/disk"
	"quartermaster/geo"
	"quartermaster/sup"
)

// ordinary is one of which each number is another.
func ordinary() api.Super {
	return api.Super{Volume: 7, Gen: 5, Epoch: 3, Area: 1, Snap: 300, Long: 456, Start: 4294967295, Chain: 3808858755,
		G: api.Geo{Wal: 8, Stripes: 1, K: 2, M: 1}}
}

// ofGen is one of that Gen, of which other numbers tell it, too.
func ofGen(gen int) api.Super {
	x := ordinary()
	x.Gen, x.Epoch, x.Area, x.Start = gen, 10+gen%1000, gen%2, 20+gen%1000
	return x
}

// fields are all numbers of one.
func fields(x *api.Super) []*int {
	return []*int{&x.Volume, &x.Gen, &x.Epoch, &x.Area, &x.Snap, &x.Long, &x.Start, &x.Chain, &x.G.Wal, &x.G.Stripes, &x.G.K, &x.G.M}
}

// notPlaces are numbers of no copy.
func notPlaces() []int { return []int{-1, 4, 5, 255, 256, 1 << 32, math.MaxInt, math.MinInt} }

// told, toldNothing, pick, read and readError call what is to be tested, and look
// at what it answers; read also at how many reads that took.
func told(t *testing.T, s []byte, i int, want api.Super) {
	t.Helper()
	if x, ok := sup.Told(s, i); !ok || x != want {
		t.Errorf("Told at %d: %v, %v, not %v", i, x, ok, want)
	}
}

func toldNothing(t *testing.T, s []byte, i int) {
	t.Helper()
	if x, ok := sup.Told(s, i); ok || x != (api.Super{}) {
		t.Errorf("Told at %d of %d bytes: %v, %v, not nothing", i, len(s), x, ok)
	}
}

func pick(t *testing.T, l [][]byte, want api.Super, found bool) {
	t.Helper()
	if x, ok := sup.Pick(l); ok != found || x != want {
		t.Errorf("Pick of %d: %v, %v, not %v, %v", len(l), x, ok, want, found)
	}
}

func read(t *testing.T, d *disk.Disk, want api.Super, ops int) {
	t.Helper()
	before := d.Ops()
	x, err := sup.Read(d)
	if took := d.Ops() - before; err != api.OK || x != want || took != ops {
		t.Errorf("Read: %v, %d by %d, not %v by %d", x, err, took, want, ops)
	}
}

func readError(t *testing.T, d *disk.Disk, want api.Errno, ops int) {
	t.Helper()
	before := d.Ops()
	x, err := sup.Read(d)
	if took := d.Ops() - before; err != want || x != (api.Super{}) || took != ops {
		t.Errorf("Read: %v, %d by %d, not %d by %d", x, err, took, want, ops)
	}
}

// may looks at what May answers.
func may(t *testing.T, x api.Super, want bool) {
	t.Helper()
	if sup.May(x) != want {
		t.Errorf("May(%v) is not %v", x, want)
	}
}

// P10.1: ordinary ones, and the least and the greatest one there is.
func TestMay(t *testing.T) {
	may(t, ordinary(), true)
	may(t, api.Super{Gen: 1, G: api.Geo{Wal: 8, Stripes: 1, K: 1, M: 1}}, true)
	top := math.MaxUint32
	may(t, api.Super{Volume: top, Gen: top, Epoch: top, Area: 1, Snap: top, Long: 228 * 32 * 16, Start: top, Chain: top,
		G: api.Geo{Wal: 512, Stripes: 32, K: 16, M: 8}}, true)
	may(t, api.Super{}, false)
	may(t, api.Super{Gen: 1}, false)
	may(t, api.Super{G: ordinary().G}, false)
}

// P10.1: each number at the edges of what it may be, and at the least and the
// greatest one there is.
func TestMayAtEdges(t *testing.T) {
	word := []int{0, 1, 1 << 31, math.MaxUint32 - 1, math.MaxUint32}
	for f, c := range []struct{ may, mayNot []int }{
		{word, []int{-1, math.MaxUint32 + 1}},
		{word[1:], []int{-1, 0, math.MaxUint32 + 1}},
		{word, []int{-1, math.MaxUint32 + 1}},
		{[]int{0, 1}, []int{-1, 2, 3}},
		{word, []int{-1, math.MaxUint32 + 1}},
		{[]int{0, 1, 228, 455, 456}, []int{-1, 457, math.MaxUint32}},
		{word, []int{-1, math.MaxUint32 + 1}},
		{word, []int{-1, math.MaxUint32 + 1}},
		{[]int{8, 9, 512}, []int{-8, 0, 7, 513}},
		{[]int{1, 2, 32}, []int{-1, 0, 33}},
		{[]int{2, 3, 16}, []int{-2, 0, 1, 17}}, // with a K of 1 there is too little room for this Long
		{[]int{1, 2, 8}, []int{-1, 0, 9}},
	} {
		for _, n := range c.may {
			x := ordinary()
			*fields(&x)[f] = n
			may(t, x, true)
		}
		// What wraps round to a number that may be, in 32 bits, is none.
		c.mayNot = append(c.mayNot, 1<<32+c.may[len(c.may)-1], c.may[1]-1<<32, math.MinInt, math.MinInt+1, math.MaxInt-1, math.MaxInt)
		for _, n := range c.mayNot {
			x := ordinary()
			*fields(&x)[f] = n
			may(t, x, false)
		}
	}
}

// P10.1: Long goes as far as the geometry has room for, whichever it is.
func TestMayLong(t *testing.T) {
	for _, g := range []api.Geo{{Wal: 8, Stripes: 1, K: 1, M: 8}, {Wal: 512, Stripes: 1, K: 16, M: 1}, {Wal: 9, Stripes: 32, K: 1, M: 2},
		{Wal: 100, Stripes: 5, K: 7, M: 3}, {Wal: 512, Stripes: 32, K: 16, M: 8}} {
		x := ordinary()
		x.G = g
		room := g.Stripes * g.K * 228
		if geo.Room(g) != room {
			t.Fatalf("the Room of %v: %d", g, geo.Room(g))
		}
		for _, long := range []int{0, 1, room - 1, room} {
			x.Long = long
			may(t, x, true)
		}
		for _, long := range []int{-1, room + 1, 2 * room, math.MaxUint32} {
			x.Long = long
			may(t, x, false)
		}
	}
}

// P10.1: a geometry that may not be has no room, and may not be with none used.
func TestMayGeometry(t *testing.T) {
	for _, g := range []api.Geo{{}, {Wal: 7, Stripes: 1, K: 2, M: 1}, {Wal: 8, K: 2, M: 1}, {Wal: 8, Stripes: 1, M: 1}, {Wal: 8, Stripes: 1, K: 2},
		{Wal: 513, Stripes: 1, K: 2, M: 1}, {Wal: 8, Stripes: 33, K: 2, M: 1}, {Wal: 8, Stripes: 1, K: 17, M: 1}, {Wal: 8, Stripes: 1, K: 2, M: 9},
		{Wal: -8, Stripes: -1, K: -2, M: -1}, {Wal: math.MaxInt, Stripes: math.MaxInt, K: math.MaxInt, M: math.MaxInt}} {
		for _, long := range []int{0, 1, -1, 456} {
			x := ordinary()
			x.G, x.Long = g, long
			may(t, x, false)
		}
	}
}

// written are the four sectors of ordinary, byte by byte, but for the noughts
// ahead of the sum.
func written() [][]byte {
	var l [][]byte
	for i, sum := range [][]byte{{58, 204, 196, 26}, {91, 186, 87, 212}, {9, 86, 14, 130}, {104, 32, 157, 76}} {
		s := []byte{81, 77, 2, 0, 7, 0, 0, 0, byte(i), 0, 0, 0, 3, 0, 0, 0, 5, 0, 0, 0, 19, 0, 0, 0,
			1, 172, 2, 200, 3, 255, 255, 255, 255, 15, 131, 165, 154, 152, 14, 8, 1, 2, 1}
		l = append(l, append(append(s, make([]byte, 252-len(s))...), sum...))
	}
	return l
}

// P10.2: the four sectors as they are written out; each is told at its place, and
// at no other one.
func TestSectorsWrittenOut(t *testing.T) {
	for i, want := range written() {
		s, err := sup.Sector(ordinary(), i)
		if err != api.OK || !bytes.Equal(s, want) {
			t.Errorf("Sector(%d): %d, %v, not %v", i, err, s, want)
		}
		for place := range 4 {
			if place == i {
				told(t, want, place, ordinary())
			} else {
				toldNothing(t, want, place)
			}
		}
		for _, place := range notPlaces() {
			toldNothing(t, want, place)
		}
	}
}

// P10.2: each number may be any that May lets be, and is told as that.
func TestSectorOfEachNumber(t *testing.T) {
	for _, n := range about() {
		for f := range fields(new(api.Super)) {
			x := ordinary()
			*fields(&x)[f] = n
			for i := range 4 {
				s, err := sup.Sector(x, i)
				if !mayBe(x) {
					if err != api.ErrArg || s != nil {
						t.Errorf("Sector(%v, %d): %d, %v", x, i, err, s)
					}
					continue
				}
				if err != api.OK || !bytes.Equal(s, sectorOf(x, i)) {
					t.Errorf("Sector(%v, %d): %d, %v", x, i, err, s)
				}
				told(t, s, i, x)
			}
		}
	}
}

// P10.2, R2, R4: of a place that is none, and of one that may not be, there is no sector.
func TestSectorErrors(t *testing.T) {
	wrong := ordinary()
	wrong.Area = 2
	for _, i := range append(notPlaces(), 0, 1, 2, 3) {
		if s, err := sup.Sector(wrong, i); err != api.ErrArg || s != nil {
			t.Errorf("Sector(%d) of what may not be: %d, %v", i, err, s)
		}
	}
	for _, i := range notPlaces() {
		if s, err := sup.Sector(ordinary(), i); err != api.ErrArg || s != nil {
			t.Errorf("Sector(%d): %d, %v", i, err, s)
		}
	}
}

// P10.2, R3: what is answered is the caller's own, what is handed in stays.
func TestSectorsAreOwn(t *testing.T) {
	s, _ := sup.Sector(ordinary(), 2)
	again, _ := sup.Sector(ordinary(), 2)
	clear(s)
	if !bytes.Equal(again, written()[2]) {
		t.Error("two answers are the same memory")
	}
	x, _ := sup.Told(again, 2)
	if !bytes.Equal(again, written()[2]) {
		t.Error("Told changes what is handed in")
	}
	clear(again)
	if x != ordinary() {
		t.Errorf("what was told is changed: %v", x)
	}
}

// P10.2: no bytes, and bytes that no sector has, tell nothing.
func TestToldOfOtherLengths(t *testing.T) {
	for i, s := range written() {
		toldNothing(t, nil, i)
		for _, long := range []int{0, 1, 24, 43, 252, 255} {
			toldNothing(t, s[:long], i)
			toldNothing(t, s[256-long:], i)
		}
		toldNothing(t, append(slices.Clone(s), 0), i)
		toldNothing(t, append([]byte{0}, s...), i)
		toldNothing(t, append(slices.Clone(s), s...), i)
		toldNothing(t, make([]byte, 256), i)
		toldNothing(t, bytes.Repeat([]byte{255}, 256), i)
	}
}

// P10.2: a sector of which any byte is any other one tells nothing.
func TestToldOfChangedBytes(t *testing.T) {
	for i, s := range written() {
		for at := range s {
			for change := 1; change < 256; change += 1 + 9*i { // all of them at the first place
				s[at] ^= byte(change)
				toldNothing(t, s, i)
				s[at] ^= byte(change)
			}
		}
		told(t, s, i, ordinary())
	}
}

// P10.2: what is sealed well, but is another kind's, or has numbers that may not
// be, tells nothing.
func TestToldOfOtherBlocks(t *testing.T) {
	for i := range 4 {
		told(t, sealed(blockOf(ordinary(), i)), i, ordinary())
		for _, kind := range []int{1, 3, 4} {
			b := blockOf(ordinary(), i)
			b.Kind = kind
			toldNothing(t, sealed(b), i)
		}
		b := blockOf(ordinary(), i)
		b.Addr = i + 4
		toldNothing(t, sealed(b), i)
		toldNothing(t, sealed(b), i+4)
		b = blockOf(ordinary(), i)
		b.Seq = 0
		toldNothing(t, sealed(b), i)
	}
}

// P10.2: each number of a body at numbers that may be and at such as may not.
func TestToldOfBodies(t *testing.T) {
	for f, c := range []struct{ may, mayNot []uint64 }{
		{[]uint64{0, 1}, []uint64{2, 3, 255, 256}},
		{[]uint64{0, 1, math.MaxUint32}, []uint64{math.MaxUint32 + 1}},
		{[]uint64{0, 1, 456}, []uint64{457}},
		{[]uint64{0, 1, math.MaxUint32}, []uint64{math.MaxUint32 + 1}},
		{[]uint64{0, 1, math.MaxUint32}, []uint64{math.MaxUint32 + 1}},
		{[]uint64{8, 9, 512}, []uint64{0, 1, 7, 513}},
		{[]uint64{1, 2, 32}, []uint64{0, 33}},
		{[]uint64{2, 3, 16}, []uint64{0, 1, 17}},
		{[]uint64{1, 2, 8}, []uint64{0, 9}},
	} {
		for _, n := range c.may {
			b := blockOf(ordinary(), 1)
			l := bodyOf(ordinary())
			l[f] = n
			b.Body = nums(l...)
			x := ordinary()
			*fields(&x)[[]int{3, 4, 5, 6, 7, 8, 9, 10, 11}[f]] = int(n)
			told(t, sealed(b), 1, x)
		}
		for _, n := range append(c.mayNot, 1<<32+c.may[1], 1<<40, 1<<63-1, 1<<63, 1<<64-1) {
			b := blockOf(ordinary(), 1)
			l := bodyOf(ordinary())
			l[f] = n
			b.Body = nums(l...)
			toldNothing(t, sealed(b), 1)
		}
	}
}

// P10.2: a body of too few or too many numbers, with bytes behind the last one, or
// with a number that code writes otherwise, tells nothing.
func TestToldOfOtherBodies(t *testing.T) {
	for i := range 4 {
		whole := blockOf(ordinary(), i)
		with := func(body []byte) []byte {
			b := whole
			b.Body = body
			return sealed(b)
		}
		l := bodyOf(ordinary())
		for few := range 9 {
			toldNothing(t, with(nums(l[:few]...)), i)
			toldNothing(t, with(nums(l[few+1:]...)), i)
			toldNothing(t, with(nums(slices.Delete(slices.Clone(l), few, few+1)...)), i)
			toldNothing(t, with(nums(slices.Insert(slices.Clone(l), few, l[few])...)), i)
		}
		for long := range len(whole.Body) {
			toldNothing(t, with(whole.Body[:long]), i)
		}
		for _, behind := range []int{1, 2, 100, 228 - len(whole.Body)} {
			for _, b := range []byte{0, 1, 128, 255} {
				toldNothing(t, with(append(slices.Clone(whole.Body), bytes.Repeat([]byte{b}, behind)...)), i)
			}
		}
		for at, b := range whole.Body {
			if b >= 128 {
				continue // not the last digit of a number
			}
			for idle := 1; idle < 11; idle++ {
				digits := append([]byte{b + 128}, bytes.Repeat([]byte{128}, idle-1)...)
				body := slices.Concat(whole.Body[:at], digits, []byte{0}, whole.Body[at+1:])
				toldNothing(t, with(body), i)
			}
		}
	}
}

// copyOf is a sector of that Gen for that place.
func copyOf(gen, i int) []byte { return sectorOf(ofGen(gen), i) }

// P10.3: nil, none, and fewer sectors than four.
func TestPickOfFew(t *testing.T) {
	pick(t, nil, api.Super{}, false)
	pick(t, [][]byte{}, api.Super{}, false)
	pick(t, [][]byte{nil}, api.Super{}, false)
	pick(t, make([][]byte, 4), api.Super{}, false)
	pick(t, [][]byte{copyOf(3, 0)}, ofGen(3), true)
	pick(t, [][]byte{copyOf(3, 0), copyOf(4, 1)}, ofGen(4), true)
	pick(t, [][]byte{copyOf(3, 0), copyOf(2, 1), copyOf(1, 2)}, ofGen(3), true)
	pick(t, [][]byte{nil, nil, copyOf(1, 2)}, ofGen(1), true)
	pick(t, written(), ordinary(), true)
}

// P10.3: of more than four the first four are looked at, and no more.
func TestPickOfMore(t *testing.T) {
	l := [][]byte{copyOf(1, 0), copyOf(2, 1), copyOf(3, 2), copyOf(4, 3)}
	for _, more := range [][]byte{copyOf(9, 0), copyOf(9, 3), sealed(blockOf(ofGen(9), 4)), nil, {1}} {
		pick(t, append(slices.Clone(l), more), ofGen(4), true)
		pick(t, append(slices.Clone(l), more, more, more, more), ofGen(4), true)
		pick(t, append(make([][]byte, 4), more), api.Super{}, false)
	}
	// Nor is what lies behind the list's end.
	behind := slices.Clone(l)
	pick(t, behind[:2], ofGen(2), true)
}

// P10.3: a sector in another's place tells nothing there.
func TestPickOfOtherPlaces(t *testing.T) {
	for i := range 4 {
		for place := range 4 {
			l := make([][]byte, 4)
			l[place] = copyOf(9, i)
			if i == place {
				pick(t, l, ofGen(9), true)
				continue
			}
			pick(t, l, api.Super{}, false)
			l[i] = copyOf(2, i)
			pick(t, l, ofGen(2), true)
		}
	}
}

// P10.3: the greatest Gen is picked, wherever it stands, whatever the others are.
func TestPickOfEachOrder(t *testing.T) {
	for _, gens := range [][]int{{9, 8, 7, 6}, {6, 9, 8, 7}, {6, 7, 9, 8}, {6, 7, 8, 9}, {9, 1, 1, 1}, {1, 9, 1, 1}, {1, 1, 9, 1}, {1, 1, 1, 9},
		{9, 8, 8, 8}, {8, 8, 8, 9}, {1, 2, 9, 9}, {9, 9, 1, 2}} {
		var l [][]byte
		for i, gen := range gens {
			l = append(l, copyOf(gen, i))
		}
		pick(t, l, ofGen(9), true)
	}
	top := math.MaxUint32
	pick(t, [][]byte{copyOf(1, 0), copyOf(1<<31, 1), copyOf(top, 2), copyOf(top-1, 3)}, ofGen(top), true)
	pick(t, [][]byte{copyOf(1, 0), nil, make([]byte, 256), copyOf(0, 3)}, ofGen(1), true)
}

// P10.3: of several of the same Gen the first one is picked, however much more the
// others' other numbers are.
func TestPickOfTheSame(t *testing.T) {
	for first := range 4 {
		for second := first + 1; second < 4; second++ {
			for f := range fields(new(api.Super)) {
				if f == 1 {
					continue
				}
				x, y := ordinary(), ordinary()
				*fields(&y)[f] += []int{1, 0, 1, -1, 1, -1, -1, 1, 1, 1, 1, 1}[f]
				l := make([][]byte, 4)
				l[first], l[second] = sectorOf(x, first), sectorOf(y, second)
				pick(t, l, x, true)
				l[first], l[second] = sectorOf(y, first), sectorOf(x, second)
				pick(t, l, y, true)
			}
		}
	}
}

// P10.3: each choice of four that are whole, nothing, rotten, or of another Gen.
func TestPickOfEachChoice(t *testing.T) {
	for choice := range 5 * 5 * 5 * 5 {
		l := make([][]byte, 4)
		best := 0
		for i, rest := 0, choice; i < 4; i, rest = i+1, rest/5 {
			gen := rest%5 - 1
			switch {
			case gen > 0:
				l[i] = copyOf(gen, i)
				best = max(best, gen)
			case gen == 0:
				l[i] = copyOf(9, i)
				l[i][choice%256] ^= 4
			}
		}
		if best > 0 {
			pick(t, l, ofGen(best), true)
		} else {
			pick(t, l, api.Super{}, false)
		}
	}
}

// R3: a list that is handed in stays as it was.
func TestPickLeavesItsList(t *testing.T) {
	l := [][]byte{copyOf(1, 0), copyOf(4, 1), nil, copyOf(2, 3), {7}}
	before := slices.Clone(l)
	for i := range before {
		before[i] = slices.Clone(l[i])
	}
	x, _ := sup.Pick(l)
	if !slices.EqualFunc(l, before, bytes.Equal) {
		t.Error("Pick changes what is handed in")
	}
	clear(l[1])
	if x != ofGen(4) {
		t.Errorf("what was picked is changed: %v", x)
	}
}
