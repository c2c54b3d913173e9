package sup_test

import (
	"bytes"
	"encoding/binary"
	"hash/crc32"
	"math"
	"math/rand/v2"
	"slices"
	"testing"

	"quartermaster/api"
	"quartermaster/disk"
	"quartermaster/keep"
	"quartermaster/sup"
)

// mixed is what mixes things up, the same way in each run.
func mixed(seed uint64) *rand.Rand { return rand.New(rand.NewPCG(seed, 10)) }

// sealed is a block's sector by the words of chapter 7 alone, by the library's sum.
func sealed(b api.Block) []byte {
	s := []byte{81, 77, byte(b.Kind), 0}
	for _, n := range []int{b.Volume, b.Addr, b.Epoch, b.Seq} {
		s = binary.LittleEndian.AppendUint32(s, uint32(n))
	}
	s = binary.LittleEndian.AppendUint16(s, uint16(len(b.Body)))
	s = append(append(s, 0, 0), b.Body...)
	s = append(s, make([]byte, 252-len(s))...)
	return binary.LittleEndian.AppendUint32(s, crc32.Checksum(s, crc32.MakeTable(crc32.Castagnoli)))
}

// nums are numbers as code lays them, by the library: the digits are the same.
func nums(l ...uint64) []byte {
	var b []byte
	for _, n := range l {
		b = binary.AppendUvarint(b, n)
	}
	return b
}

// bodyOf are the numbers of a body, in order.
func bodyOf(x api.Super) []uint64 {
	var l []uint64
	for _, n := range []int{x.Area, x.Snap, x.Long, x.Start, x.Chain, x.G.Wal, x.G.Stripes, x.G.K, x.G.M} {
		l = append(l, uint64(n))
	}
	return l
}

// blockOf is that of a copy.
func blockOf(x api.Super, i int) api.Block {
	return api.Block{Kind: 2, Volume: x.Volume, Addr: i, Epoch: x.Epoch, Seq: x.Gen, Body: nums(bodyOf(x)...)}
}

func sectorOf(x api.Super, i int) []byte { return sealed(blockOf(x, i)) }

// mayBe is P10.1, by numbers of any size; all sectors of a geometry are fewer than
// 4096 where each of its numbers may be.
func mayBe(x api.Super) bool {
	for _, n := range []int{x.Volume, x.Epoch, x.Snap, x.Start, x.Chain} {
		if n < 0 || n > 4294967295 {
			return false
		}
	}
	g := x.G
	if g.Wal < 8 || g.Wal > 512 || g.Stripes < 1 || g.Stripes > 32 || g.K < 1 || g.K > 16 || g.M < 1 || g.M > 8 {
		return false
	}
	return x.Gen >= 1 && x.Gen <= 4294967295 && (x.Area == 0 || x.Area == 1) && x.Long >= 0 && x.Long <= 228*g.Stripes*g.K
}

// toldBy is P10.2's Told: what a sector's numbers say, if they may be, and if the
// sector is just the one of these.
func toldBy(s []byte, i int) (api.Super, bool) {
	if len(s) != 256 || i < 0 || i > 3 {
		return api.Super{}, false
	}
	word := func(at int) int { return int(binary.LittleEndian.Uint32(s[at:])) }
	x := api.Super{Volume: word(4), Epoch: word(12), Gen: word(16)}
	rest := s[24:252]
	for _, n := range []*int{&x.Area, &x.Snap, &x.Long, &x.Start, &x.Chain, &x.G.Wal, &x.G.Stripes, &x.G.K, &x.G.M} {
		got, long := binary.Uvarint(rest)
		if long <= 0 || got > math.MaxInt {
			return api.Super{}, false
		}
		*n, rest = int(got), rest[long:]
	}
	if !mayBe(x) || !bytes.Equal(s, sectorOf(x, i)) {
		return api.Super{}, false
	}
	return x, true
}

// pickBy is P10.3.
func pickBy(l [][]byte) (api.Super, bool) {
	var best api.Super
	found := false
	for i := range min(4, len(l)) {
		if x, ok := toldBy(l[i], i); ok && (!found || x.Gen > best.Gen) {
			best, found = x, true
		}
	}
	return best, found
}

// about are numbers about the edges that a number of a Super may have.
func about() []int {
	return []int{math.MinInt, math.MinInt + 1, -4294967296, -4294967295, -1, 0, 1, 2, 3, 7, 8, 16, 17, 32, 33, 127, 128, 228, 456,
		512, 513, 16383, 16384, 116736, 116737, 1 << 31, 4294967294, 4294967295, 4294967296, 4294967297, 1 << 35, math.MaxInt - 1, math.MaxInt}
}

// some is a Super that may be, of numbers mixed up.
func some(r *rand.Rand) api.Super {
	g := api.Geo{Wal: 8 + r.IntN(505), Stripes: 1 + r.IntN(32), K: 1 + r.IntN(16), M: 1 + r.IntN(8)}
	word := func() int { return int(r.Uint32() >> r.IntN(32)) }
	return api.Super{Volume: word(), Gen: max(1, word()), Epoch: word(), Area: r.IntN(2), Snap: word(),
		Long: r.IntN(228*g.Stripes*g.K + 1), Start: word(), Chain: word(), G: g}
}

// P10.1, P10.2: whatever numbers it has, it may be, has a sector, and is told
// again by it, as it is reckoned.
func TestNumbersAsReckoned(t *testing.T) {
	r := mixed(1)
	for range 20000 {
		x := some(r)
		for range r.IntN(3) {
			*fields(&x)[r.IntN(12)] = about()[r.IntN(len(about()))]
		}
		i := r.IntN(6) - 1
		if sup.May(x) != mayBe(x) {
			t.Fatalf("May(%v): %v", x, sup.May(x))
		}
		s, err := sup.Sector(x, i)
		if mayBe(x) && i >= 0 && i < 4 {
			if err != api.OK || !bytes.Equal(s, sectorOf(x, i)) {
				t.Fatalf("Sector(%v, %d): %d, %v", x, i, err, s)
			}
			told(t, s, i, x)
		} else if err != api.ErrArg || s != nil {
			t.Fatalf("Sector(%v, %d): %d, %v", x, i, err, s)
		}
	}
}

// spoilt is a copy's sector that something may be wrong with, though it is sealed well.
func spoilt(r *rand.Rand) []byte {
	x := some(r)
	b := blockOf(x, r.IntN(4))
	l := bodyOf(x)
	for range r.IntN(3) {
		l[r.IntN(9)] = uint64(about()[r.IntN(len(about()))])
	}
	b.Body = nums(l[:9-r.IntN(15)/14]...)
	switch r.IntN(12) {
	case 0:
		b.Kind = 1 + r.IntN(4)
	case 1:
		b.Addr = 4 + r.IntN(1<<31)
	case 2:
		b.Body = append(b.Body, make([]byte, r.IntN(3))...)
	case 3:
		at := r.IntN(len(b.Body))
		b.Body = slices.Insert(b.Body, at+1, byte(r.IntN(256)))
	case 4:
		b.Body[r.IntN(len(b.Body))] = byte(r.IntN(256))
	case 5:
		b.Seq = 0
	}
	s := sealed(b)
	if r.IntN(8) == 0 {
		s[r.IntN(256)] ^= byte(1 + r.IntN(255))
	}
	return s
}

// P10.2: of sectors that are sealed well, but of which something may be wrong, each
// tells what is reckoned.
func TestToldAsReckoned(t *testing.T) {
	r, good := mixed(2), 0
	for range 30000 {
		s := spoilt(r)
		for i := range 4 {
			if want, ok := toldBy(s, i); ok {
				told(t, s, i, want)
				good++
			} else {
				toldNothing(t, s, i)
			}
		}
	}
	if good < 3000 || good > 27000 {
		t.Errorf("%d tell something", good)
	}
}

// P10.3: of lists of up to 6 sectors, mixed up, of few Gens and with others among
// them, that one is picked that is reckoned.
func TestPickAsReckoned(t *testing.T) {
	r := mixed(3)
	for range 20000 {
		var l [][]byte
		for i := range r.IntN(7) {
			x := some(r)
			x.Gen = 1 + r.IntN(3)
			switch r.IntN(5) {
			case 0:
				l = append(l, spoilt(r))
			case 1:
				l = append(l, nil)
			case 2:
				l = append(l, sectorOf(x, r.IntN(4)))
			default:
				l = append(l, sectorOf(x, i))
			}
		}
		want, ok := pickBy(l)
		pick(t, l, want, ok)
	}
}

// hurtBy lets something go wrong with a device, mostly with the copies.
func hurtBy(t *testing.T, r *rand.Rand, d *disk.Disk) {
	t.Helper()
	a := r.IntN(min(5, d.Len()))
	switch r.IntN(6) {
	case 0:
		fault(t, d, lose(a))
	case 1:
		fault(t, d, blank(a))
	case 2:
		fault(t, d, rot(a, r.IntN(256)))
	case 3:
		fault(t, d, drop(a, 1+r.IntN(4)))
	case 4:
		fault(t, d, miss(a, r.IntN(d.Len())))
	case 5:
		d.Arm(r.IntN(12) - 1)
	}
}

// read0to3 is what a Read of a device goes by, read there and then from a copy.
func read0to3(d *disk.Disk) [][]byte {
	l := make([][]byte, 4)
	for i := range l {
		l[i], _ = d.Copy().Read(i)
	}
	return l
}

// P10.4, R5: whatever goes wrong, and whatever was called ahead, Install does what
// keep's All of the four sectors does to a copy of the device, and Read answers
// what is picked of them.
func TestDevicesAsReckoned(t *testing.T) {
	r := mixed(4)
	for range 2000 {
		d := device(t, 1+r.IntN(9))
		for range 8 {
			for range r.IntN(3) {
				hurtBy(t, r, d)
			}
			x := some(r)
			x.Gen = 1 + r.IntN(9)
			if r.IntN(10) == 0 {
				x.Area = 2
			}
			same, want := d.Copy(), api.ErrArg
			if mayBe(x) {
				want = keep.All(same, copiesOf(x))
			}
			if err := sup.Install(d, x); err != want {
				t.Fatalf("Install: %d, not %d", err, want)
			}
			alike(t, d, same)
			asPicked(t, d)
			if d.Dead() {
				d.Crash([]bool{r.IntN(2) == 0})
				asPicked(t, d)
			}
		}
	}
}

// asPicked looks at what Read answers of a device.
func asPicked(t *testing.T, d *disk.Disk) {
	t.Helper()
	want, ok := pickBy(read0to3(d))
	switch {
	case d.Dead():
		readError(t, d, api.ErrDead, 0)
	case ok:
		read(t, d, want, min(4, d.Len()))
	default:
		readError(t, d, api.ErrDamaged, min(4, d.Len()))
	}
}

// P1, R1: each call ends, whatever it is given, and none panics.
func TestAnyArguments(t *testing.T) {
	long := make([]byte, 1<<20)
	for _, n := range about() {
		for f := range fields(new(api.Super)) {
			x := ordinary()
			*fields(&x)[f] = n
			y := api.Super{}
			*fields(&y)[f] = n
			for _, one := range []api.Super{x, y} {
				may := sup.May(one)
				for _, i := range about() {
					s, err := sup.Sector(one, i)
					if fits := may && i >= 0 && i < 4; fits != (err == api.OK) || fits != (s != nil) {
						t.Errorf("Sector(%v, %d): %d", one, i, err)
					}
				}
				for _, d := range []*disk.Disk{nil, {}, device(t, 1)} {
					sup.Install(d, one)
				}
			}
		}
		for _, size := range []int{0, 1, 2, 24, 252, 255, 256, 257, 512, len(long)} {
			toldNothing(t, long[:size], n)
		}
	}
	pick(t, slices.Repeat([][]byte{long}, 100), api.Super{}, false)
	pick(t, make([][]byte, 1<<20), api.Super{}, false)
}
