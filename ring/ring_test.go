package ring_test

import (
	"bytes"
	"math"
	"slices"
	"testing"

	"quartermaster/api"
	"quartermaster/disk"
	"quartermaster/ring"
)

// volume is whose the log of most tests is, geometry how its device is laid out.
const volume = 7

func geometry() api.Geo { return api.Geo{Wal: 8, Stripes: 1, K: 2, M: 1} }

// ordinary is a piece of which each number is another; its slot is 5.
func ordinary() api.Piece {
	return api.Piece{Seq: 301, Epoch: 9, From: 300, Chain: 3808858755, Index: 1, Of: 3, B: []byte{9, 8, 7}}
}

// fields are all numbers of a piece.
func fields(p *api.Piece) []*int {
	return []*int{&p.Seq, &p.Epoch, &p.From, &p.Chain, &p.Index, &p.Of}
}

// numbersOf are they as values, to hold pieces against each other.
func numbersOf(p api.Piece) [6]int {
	return [6]int{p.Seq, p.Epoch, p.From, p.Chain, p.Index, p.Of}
}

// badGeos are some that may not be.
func badGeos() []api.Geo {
	return []api.Geo{{}, {Wal: 7, Stripes: 1, K: 2, M: 1}, {Wal: 513, Stripes: 1, K: 2, M: 1}, {Wal: 8, K: 2, M: 1}, {Wal: 8, Stripes: 33, K: 2, M: 1},
		{Wal: 8, Stripes: 1, M: 1}, {Wal: 8, Stripes: 1, K: 17, M: 1}, {Wal: 8, Stripes: 1, K: 2}, {Wal: 8, Stripes: 1, K: 2, M: 9},
		{Wal: -8, Stripes: 1, K: 2, M: 1}, {Wal: math.MinInt, Stripes: 1, K: 2, M: 1},
		{Wal: math.MaxInt, Stripes: math.MaxInt, K: math.MaxInt, M: math.MaxInt}}
}

// notWords are numbers that none of a block may be.
func notWords() []int {
	return []int{-1, 4294967296, 4294967297, 4294967295 - 1<<32, math.MinInt, math.MinInt + 1, math.MaxInt - 1, math.MaxInt}
}

// may, told and toldNothing call what is to be tested, and look at what it answers.
func may(t *testing.T, p api.Piece, want bool) {
	t.Helper()
	if ring.May(p) != want {
		t.Errorf("May(%v) is not %v", p, want)
	}
}

func told(t *testing.T, s []byte, v int, g api.Geo, mirror, slot int, want api.Piece) {
	t.Helper()
	p, ok := ring.Told(s, v, g, mirror, slot)
	if !ok || numbersOf(p) != numbersOf(want) || !bytes.Equal(p.B, want.B) {
		t.Errorf("Told at %d of %d: %v, %v, not %v", slot, mirror, p, ok, want)
	}
}

func toldNothing(t *testing.T, s []byte, v int, g api.Geo, mirror, slot int) {
	t.Helper()
	p, ok := ring.Told(s, v, g, mirror, slot)
	if ok || numbersOf(p) != [6]int{} || p.B != nil {
		t.Errorf("Told at %d of %d, of %d bytes: %v, %v, not nothing", slot, mirror, len(s), p, ok)
	}
}

// sectorError looks at an answer without a sector.
func sectorError(t *testing.T, v int, g api.Geo, mirror int, p api.Piece) {
	t.Helper()
	if s, err := ring.Sector(v, g, mirror, p); err != api.ErrArg || s != nil {
		t.Errorf("Sector(%d, %v, %d, %v): %d, %v", v, g, mirror, p, err, s)
	}
}

// P11.1: ordinary ones, and those of the least and the greatest numbers there are.
func TestMay(t *testing.T) {
	may(t, ordinary(), true)
	may(t, api.Piece{Of: 1}, true)
	top := math.MaxUint32
	may(t, api.Piece{Seq: top, Epoch: top, From: top, Chain: top, Index: 63, Of: 64, B: make([]byte, 200)}, true)
	may(t, api.Piece{}, false)
	least, most := math.MinInt, math.MaxInt
	may(t, api.Piece{Seq: least, Epoch: least, From: least, Chain: least, Index: least, Of: least}, false)
	may(t, api.Piece{Seq: most, Epoch: most, From: most, Chain: most, Index: most, Of: most}, false)
}

// P11.1: each number at the edges of what it may be, and at the least and the
// greatest one there is.
func TestMayAtEdges(t *testing.T) {
	word := []int{0, 1, 1 << 31, math.MaxUint32 - 1, math.MaxUint32}
	for f, c := range []struct{ may, mayNot []int }{
		{[]int{300, 301, 302, math.MaxUint32}, []int{0, 1, 299}}, // its From is 300
		{word, nil},
		{[]int{0, 1, 300, 301}, []int{302, math.MaxUint32}}, // its Seq is 301
		{word, nil},
		{[]int{0, 1, 2}, []int{3, 4, 63, 64}},       // its Of is 3
		{[]int{2, 3, 63, 64}, []int{0, 1, 65, 200}}, // its Index is 1
	} {
		for _, n := range c.may {
			p := ordinary()
			*fields(&p)[f] = n
			may(t, p, true)
		}
		// What wraps round to a number that may be, in 32 bits, is none.
		for _, n := range slices.Concat(c.mayNot, notWords(), []int{1<<32 + c.may[0], c.may[0] - 1<<32}) {
			p := ordinary()
			*fields(&p)[f] = n
			may(t, p, false)
			p.B = nil
			may(t, p, false)
		}
	}
}

// P11.1: From is not above Seq, wherever that is.
func TestMayFrom(t *testing.T) {
	for _, seq := range []int{0, 1, 2, 301, 1 << 31, math.MaxUint32 - 1, math.MaxUint32} {
		p := ordinary()
		p.Seq = seq
		for _, from := range []int{0, seq / 2, max(0, seq-1), seq} {
			p.From = from
			may(t, p, true)
		}
		for _, from := range []int{-1, seq + 1, seq + 2, 1<<32 + seq} {
			p.From = from
			may(t, p, false)
		}
	}
}

// P11.1: each Index of each Of.
func TestMayIndex(t *testing.T) {
	for of := -3; of < 70; of++ {
		for index := -3; index < 70; index++ {
			p := ordinary()
			p.Index, p.Of = index, of
			may(t, p, of >= 1 && of <= 64 && index >= 0 && index < of)
		}
	}
}

// P11.1: a piece has at most 200 bytes.
func TestMayLong(t *testing.T) {
	p := ordinary()
	p.B = nil
	may(t, p, true)
	for _, n := range []int{0, 1, 199, 200} {
		p.B = make([]byte, n)
		may(t, p, true)
	}
	for _, n := range []int{201, 202, 228, 256, 400, 4096, 4097, 1 << 20} {
		p.B = make([]byte, n)
		may(t, p, false)
		sectorError(t, volume, geometry(), 0, p)
	}
}

// written are the two sectors of ordinary, byte by byte, but for the noughts ahead
// of the sum.
func written() [][]byte {
	var l [][]byte
	for mirror, sum := range [][]byte{{192, 95, 227, 144}, {178, 208, 244, 41}} {
		s := []byte{81, 77, 3, 0, 7, 0, 0, 0, byte(9 + 8*mirror), 0, 0, 0, 9, 0, 0, 0, 45, 1, 0, 0, 13, 0, 0, 0,
			172, 2, 131, 165, 154, 152, 14, 1, 3, 3, 9, 8, 7}
		l = append(l, append(append(s, make([]byte, 252-len(s))...), sum...))
	}
	return l
}

// P11.1: the sectors in both mirrors as they are written out; each is told at its
// slot in its mirror, and at no other one.
func TestSectorsWrittenOut(t *testing.T) {
	for mirror, want := range written() {
		s, err := ring.Sector(volume, geometry(), mirror, ordinary())
		if err != api.OK || !bytes.Equal(s, want) {
			t.Errorf("Sector(%d): %d, %v, not %v", mirror, err, s, want)
		}
		for _, m := range []int{-1, 0, 1, 2, 3, 256, 1 << 32, 1<<32 + 1, math.MaxInt, math.MinInt} {
			for _, slot := range []int{-8, -3, -1, 0, 1, 2, 3, 4, 5, 6, 7, 8, 13, 301, math.MaxInt, math.MinInt} {
				if m == mirror && slot == 5 {
					told(t, want, volume, geometry(), m, slot, ordinary())
				} else {
					toldNothing(t, want, volume, geometry(), m, slot)
				}
			}
		}
	}
}

// P11.1: each number may be any that May lets be, and is told as that.
func TestSectorOfEachNumber(t *testing.T) {
	g := geometry()
	for _, n := range about() {
		for f := range 6 {
			p := ordinary()
			*fields(&p)[f] = n
			for mirror := range 2 {
				if !mayBe(p) {
					sectorError(t, volume, g, mirror, p)
					continue
				}
				s, err := ring.Sector(volume, g, mirror, p)
				if err != api.OK || !bytes.Equal(s, sectorOf(volume, g, mirror, p)) {
					t.Errorf("Sector(%d, %v): %d, %v", mirror, p, err, s)
				}
				told(t, s, volume, g, mirror, p.Seq%8, p)
			}
		}
	}
}

// P11.1: pieces of as many bytes as there may be, in any slot of any geometry.
func TestSectorOfEachSlot(t *testing.T) {
	for _, g := range []api.Geo{geometry(), {Wal: 9, Stripes: 32, K: 16, M: 8}, {Wal: 512, Stripes: 1, K: 1, M: 1}, {Wal: 512, Stripes: 32, K: 16, M: 8}} {
		for i, seq := range []int{0, 1, g.Wal - 1, g.Wal, g.Wal + 1, 3*g.Wal - 1, 5 * g.Wal, 1<<31 + 3, math.MaxUint32} {
			p := api.Piece{Seq: seq, Of: 64, Index: 63, B: bytes.Repeat([]byte{128}, []int{0, 1, 199, 200}[i%4])}
			for mirror := range 2 {
				s, err := ring.Sector(math.MaxUint32, g, mirror, p)
				if err != api.OK || !bytes.Equal(s, sectorOf(math.MaxUint32, g, mirror, p)) {
					t.Errorf("Sector(%d, %v): %d, %v", mirror, p, err, s)
				}
				told(t, s, math.MaxUint32, g, mirror, seq%g.Wal, p)
				toldNothing(t, s, math.MaxUint32, g, mirror, (seq+1)%g.Wal)
				toldNothing(t, s, math.MaxUint32, g, mirror, seq%g.Wal+g.Wal)
				toldNothing(t, s, math.MaxUint32, g, mirror, seq%g.Wal-g.Wal)
			}
		}
	}
}

// P11.1, R2, R4: each argument that may not be, by itself and with others.
func TestSectorErrors(t *testing.T) {
	wrong := ordinary()
	wrong.Of = 1
	for _, v := range notWords() {
		sectorError(t, v, geometry(), 0, ordinary())
		sectorError(t, v, geometry(), 1, ordinary())
	}
	for _, g := range badGeos() {
		sectorError(t, volume, g, 0, ordinary())
		sectorError(t, -1, g, 2, wrong)
	}
	for _, mirror := range []int{-1, 2, 3, 256, 1 << 32, 1<<32 + 1, math.MaxInt, math.MinInt} {
		sectorError(t, volume, geometry(), mirror, ordinary())
	}
	sectorError(t, volume, geometry(), 0, wrong)
	sectorError(t, volume, geometry(), 1, wrong)
	sectorError(t, volume, geometry(), 0, api.Piece{})
}

// P11.1, R3: what is answered is the caller's own, what is handed in stays.
func TestSectorsAreOwn(t *testing.T) {
	p := ordinary()
	s, _ := ring.Sector(volume, geometry(), 1, p)
	again, _ := ring.Sector(volume, geometry(), 1, p)
	clear(s)
	if !bytes.Equal(again, written()[1]) || !bytes.Equal(p.B, ordinary().B) {
		t.Error("two answers are the same memory, or one is the piece's")
	}
	clear(p.B)
	if !bytes.Equal(again, written()[1]) {
		t.Error("a sector is changed with its piece")
	}
	q, _ := ring.Told(again, volume, geometry(), 1, 5)
	clear(again)
	if !bytes.Equal(q.B, ordinary().B) {
		t.Errorf("what was told is changed: %v", q)
	}
	whole := written()[1]
	q, _ = ring.Told(whole, volume, geometry(), 1, 5)
	clear(q.B)
	if !bytes.Equal(whole, written()[1]) {
		t.Error("a sector is changed with what it told")
	}
}

// P11.1: no bytes, and bytes that no sector has, tell nothing.
func TestToldOfOtherLengths(t *testing.T) {
	g := geometry()
	for mirror, s := range written() {
		toldNothing(t, nil, volume, g, mirror, 5)
		for _, long := range []int{0, 1, 24, 37, 252, 255} {
			toldNothing(t, s[:long], volume, g, mirror, 5)
			toldNothing(t, s[256-long:], volume, g, mirror, 5)
		}
		toldNothing(t, append(slices.Clone(s), 0), volume, g, mirror, 5)
		toldNothing(t, append([]byte{0}, s...), volume, g, mirror, 5)
		toldNothing(t, append(slices.Clone(s), s...), volume, g, mirror, 5)
		for _, b := range []byte{0, 1, 128, 255} {
			toldNothing(t, bytes.Repeat([]byte{b}, 256), volume, g, mirror, 5)
			toldNothing(t, bytes.Repeat([]byte{b}, 256), 0, g, mirror, 0)
		}
	}
}

// P11.1: a sector of which any byte is any other one tells nothing.
func TestToldOfChangedBytes(t *testing.T) {
	for mirror, s := range written() {
		for at := range s {
			for change := 1; change < 256; change += 1 + 9*mirror { // all of them in mirror 0
				s[at] ^= byte(change)
				toldNothing(t, s, volume, geometry(), mirror, 5)
				s[at] ^= byte(change)
			}
		}
		told(t, s, volume, geometry(), mirror, 5, ordinary())
	}
}

// P11.1: what is sealed well, but is another volume's, another sector's or of
// another kind, tells nothing; nor does anything in a geometry that may not be.
func TestToldOfOtherBlocks(t *testing.T) {
	g := geometry()
	for mirror := range 2 {
		whole := blockOf(volume, g, mirror, ordinary())
		told(t, sealed(whole), volume, g, mirror, 5, ordinary())
		for _, kind := range []int{1, 2, 4} {
			b := whole
			b.Kind = kind
			toldNothing(t, sealed(b), volume, g, mirror, 5)
		}
		for _, v := range []int{0, 6, 8, 1 << 31, math.MaxUint32} {
			b := whole
			b.Volume = v
			toldNothing(t, sealed(b), volume, g, mirror, 5)
			toldNothing(t, sealed(whole), v, g, mirror, 5)
			told(t, sealed(b), v, g, mirror, 5, ordinary())
		}
		for _, v := range append(notWords(), 1<<32+volume, volume-1<<32) {
			toldNothing(t, sealed(whole), v, g, mirror, 5)
		}
		for addr := range 26 {
			b := whole
			if b.Addr != addr {
				b.Addr = addr
				toldNothing(t, sealed(b), volume, g, mirror, 5)
			}
		}
		for _, seq := range []int{299, 300, 302, 0, 5} { // another slot's, or below From
			b := whole
			b.Seq = seq
			toldNothing(t, sealed(b), volume, g, mirror, 5)
			toldNothing(t, sealed(b), volume, g, mirror, seq%8)
		}
		for _, other := range append(badGeos(), api.Geo{Wal: 9, Stripes: 1, K: 2, M: 1}, api.Geo{Wal: 16, Stripes: 1, K: 2, M: 1}) {
			toldNothing(t, sealed(whole), volume, other, mirror, 5)
		}
	}
}

// P11.1: each number of a body at numbers that may be and at such as may not.
func TestToldOfBodies(t *testing.T) {
	g := geometry()
	top := uint64(math.MaxUint32)
	for f, c := range []struct{ may, mayNot []uint64 }{
		{[]uint64{0, 1, 300, 301}, []uint64{302, top, top + 1}},
		{[]uint64{0, 1, top}, []uint64{top + 1}},
		{[]uint64{0, 1, 2}, []uint64{3, 4, top}},
		{[]uint64{2, 3, 64}, []uint64{0, 1, 65, 128}},
		{[]uint64{3}, []uint64{0, 1, 2, 4, 200, 201, 4096, 4097}}, // how many bytes
	} {
		for mirror := range 2 {
			with := func(n uint64) []byte {
				b, l := blockOf(volume, g, mirror, ordinary()), bodyOf(ordinary())
				l[f] = n
				b.Body = append(nums(l...), 9, 8, 7)
				return sealed(b)
			}
			for _, n := range c.may {
				p := ordinary()
				if f < 4 {
					*[]*int{&p.From, &p.Chain, &p.Index, &p.Of}[f] = int(n)
				}
				told(t, with(n), volume, g, mirror, 5, p)
			}
			for _, n := range append(c.mayNot, 1<<32+c.may[0], 1<<40, 1<<63-1, 1<<63, 1<<64-1) {
				toldNothing(t, with(n), volume, g, mirror, 5)
			}
		}
	}
}

// P11.1: how many bytes a body has room for: with noughts behind the numbers, up to
// what a piece has at most, and beyond.
func TestToldOfLongBodies(t *testing.T) {
	g := geometry()
	for _, n := range []int{0, 1, 127, 128, 199, 200, 201, 202, 213} {
		p := ordinary()
		p.B = bytes.Repeat([]byte{3}, n)
		p.Chain = 5
		s := sectorOf(volume, g, 1, p)
		if n <= 200 {
			told(t, s, volume, g, 1, 5, p)
		} else {
			toldNothing(t, s, volume, g, 1, 5)
		}
	}
}

// P11.1: a body of too few or too many numbers, of too few bytes, with bytes behind
// the last one, or with a number that code writes otherwise, tells nothing.
func TestToldOfOtherBodies(t *testing.T) {
	g := geometry()
	for mirror := range 2 {
		whole := blockOf(volume, g, mirror, ordinary())
		none := func(body []byte) {
			t.Helper()
			b := whole
			b.Body = body
			toldNothing(t, sealed(b), volume, g, mirror, 5)
		}
		l := bodyOf(ordinary())
		for few := range 5 {
			none(nums(l[:few]...))
			none(append(nums(slices.Delete(slices.Clone(l), few, few+1)...), 9, 8, 7))
			none(append(nums(slices.Insert(slices.Clone(l), few, l[few])...), 9, 8, 7))
		}
		for long := range len(whole.Body) {
			none(whole.Body[:long])
		}
		for _, behind := range []int{1, 2, 100, 228 - len(whole.Body)} {
			for _, b := range []byte{0, 1, 128, 255} {
				none(append(slices.Clone(whole.Body), bytes.Repeat([]byte{b}, behind)...))
			}
		}
		for at, b := range whole.Body[:len(whole.Body)-3] {
			if b >= 128 {
				continue // not the last digit of a number
			}
			for idle := 1; idle < 11; idle++ {
				digits := append([]byte{b + 128}, bytes.Repeat([]byte{128}, idle-1)...)
				none(slices.Concat(whole.Body[:at], digits, []byte{0}, whole.Body[at+1:]))
			}
		}
	}
}

// load is what Load reads, if it takes a read of each slot of both mirrors.
func load(t *testing.T, d *disk.Disk, g api.Geo) ([][]byte, [][]byte) {
	t.Helper()
	ops := d.Ops()
	a, b := ring.Load(d, g)
	if took := d.Ops() - ops; len(a) != g.Wal || len(b) != g.Wal || !d.Dead() && took != 2*g.Wal {
		t.Fatalf("Load: %d and %d sectors by %d reads", len(a), len(b), took)
	}
	return a, b
}

// loads looks at what Load reads: that, but nothing of those that can't be read.
func loads(t *testing.T, d *disk.Disk, g api.Geo, want func(a int) []byte) {
	t.Helper()
	a, b := ring.Load(d, g)
	if len(a) != g.Wal || len(b) != g.Wal {
		t.Fatalf("Load: %d and %d sectors", len(a), len(b))
	}
	for i, s := range append(slices.Clone(a), b...) {
		if w := want(4 + i); !bytes.Equal(s, w) || w == nil && s != nil {
			t.Errorf("Load of the sector %d: %v, not %v", 4+i, s, w)
		}
	}
}

// P11.1: what is read is what each sector of both mirrors has.
func TestLoad(t *testing.T) {
	for _, g := range []api.Geo{geometry(), {Wal: 9, Stripes: 1, K: 1, M: 1}, {Wal: 512, Stripes: 1, K: 1, M: 1}} {
		d := device(t, g)
		load(t, d, g)
		loads(t, d, g, func(a int) []byte { return free(volume, a) })
		write(t, d, 4, sector(1))
		write(t, d, 3+2*g.Wal, sector(2)) // it waits
		loads(t, d, g, func(a int) []byte {
			switch a {
			case 4:
				return sector(1)
			case 3 + 2*g.Wal:
				return sector(2)
			}
			return free(volume, a)
		})
	}
}

// P11.1: what can't be read is nothing: sectors that are lost, those a device has
// not, all of one that is dead, of none, and of a zero one.
func TestLoadOfWhatIsNotThere(t *testing.T) {
	g := geometry()
	d := device(t, g)
	fault(t, d, lose(4), lose(11), lose(12), lose(15), lose(3), lose(20), blank(5))
	loads(t, d, g, func(a int) []byte {
		switch a {
		case 4, 11, 12, 15:
			return nil
		case 5:
			return sector(0)
		}
		return free(volume, a)
	})
	for n := range 24 {
		small, _ := disk.New(n + 1)
		loads(t, small, g, func(a int) []byte {
			if a <= n {
				return sector(0)
			}
			return nil
		})
	}
	dead := device(t, g)
	dead.Arm(0)
	dead.Flush()
	for _, d := range []*disk.Disk{dead, nil, {}} {
		loads(t, d, g, func(a int) []byte { return nil })
	}
}

// P11.1: of a geometry that may not be nothing is read.
func TestLoadOfNoGeometry(t *testing.T) {
	d := device(t, geometry())
	ops := d.Ops()
	for _, g := range badGeos() {
		for _, d := range []*disk.Disk{d, nil, {}} {
			if a, b := ring.Load(d, g); len(a) != 0 || len(b) != 0 {
				t.Errorf("Load of %v: %v, %v", g, a, b)
			}
		}
	}
	if d.Ops() != ops {
		t.Errorf("%d reads", d.Ops()-ops)
	}
}

// P11.1, R3: what was loaded is the caller's own.
func TestLoadsAreOwn(t *testing.T) {
	g := geometry()
	d := device(t, g)
	a, b := ring.Load(d, g)
	for i := range 8 {
		clear(a[i])
		clear(b[i])
	}
	clear(a)
	loads(t, d, g, func(a int) []byte { return free(volume, a) })
}
