package ring_test

import (
	"bytes"
	"encoding/binary"
	"hash/crc32"
	"math"
	"math/rand/v2"
	"slices"
	"testing"

	"quartermaster/api"
	"quartermaster/disk"
	"quartermaster/keep"
	"quartermaster/ring"
)

// mixed is what mixes things up, the same way in each run.
func mixed(seed uint64) *rand.Rand { return rand.New(rand.NewPCG(seed, 11)) }

// sumOfBytes is their sum, by the library.
func sumOfBytes(b []byte) int { return int(crc32.Checksum(b, crc32.MakeTable(crc32.Castagnoli))) }

// sealed is a block's sector by the words of chapter 7 alone.
func sealed(b api.Block) []byte {
	s := []byte{81, 77, byte(b.Kind), 0}
	for _, n := range []int{b.Volume, b.Addr, b.Epoch, b.Seq} {
		s = binary.LittleEndian.AppendUint32(s, uint32(n))
	}
	s = binary.LittleEndian.AppendUint16(s, uint16(len(b.Body)))
	s = append(append(s, 0, 0), b.Body...)
	s = append(s, make([]byte, 252-len(s))...)
	return binary.LittleEndian.AppendUint32(s, uint32(sumOfBytes(s)))
}

// nums are numbers as code lays them, by the library: the digits are the same.
func nums(l ...uint64) []byte {
	var b []byte
	for _, n := range l {
		b = binary.AppendUvarint(b, n)
	}
	return b
}

// bodyOf are the numbers of a piece's body, its bytes' number, too.
func bodyOf(p api.Piece) []uint64 {
	return []uint64{uint64(p.From), uint64(p.Chain), uint64(p.Index), uint64(p.Of), uint64(len(p.B))}
}

// at is the sector of a slot in a mirror.
func at(g api.Geo, mirror, slot int) int { return 4 + g.Wal*mirror + slot }

// blockOf is that of a piece, sectorOf its sector, sumOf the sum ahead of the one
// behind it.
func blockOf(v int, g api.Geo, mirror int, p api.Piece) api.Block {
	return api.Block{Kind: 3, Volume: v, Addr: at(g, mirror, p.Seq%g.Wal), Epoch: p.Epoch, Seq: p.Seq, Body: append(nums(bodyOf(p)...), p.B...)}
}

func sectorOf(v int, g api.Geo, mirror int, p api.Piece) []byte {
	return sealed(blockOf(v, g, mirror, p))
}

func sumOf(v int, g api.Geo, p api.Piece) int { return sumOfBytes(sectorOf(v, g, 0, p)) }

// isWord, geoMay, mayBe and hasSector are what P11.1 asks, by numbers of any size.
func isWord(n int) bool { return n >= 0 && n <= 4294967295 }

func geoMay(g api.Geo) bool {
	return g.Wal >= 8 && g.Wal <= 512 && g.Stripes >= 1 && g.Stripes <= 32 && g.K >= 1 && g.K <= 16 && g.M >= 1 && g.M <= 8
}

func mayBe(p api.Piece) bool {
	return isWord(p.Seq) && isWord(p.Epoch) && isWord(p.From) && isWord(p.Chain) && p.From <= p.Seq &&
		p.Of >= 1 && p.Of <= 64 && p.Index >= 0 && p.Index < p.Of && len(p.B) <= 200
}

func hasSector(v int, g api.Geo, mirror int, p api.Piece) bool {
	return mayBe(p) && geoMay(g) && isWord(v) && (mirror == 0 || mirror == 1)
}

// toldBy is P11.1's Told: what a sector's numbers say, if the sector is just the one
// of these.
func toldBy(s []byte, v int, g api.Geo, mirror, slot int) (api.Piece, bool) {
	if len(s) != 256 {
		return api.Piece{}, false
	}
	p := api.Piece{Epoch: int(binary.LittleEndian.Uint32(s[12:])), Seq: int(binary.LittleEndian.Uint32(s[16:]))}
	rest, count := s[24:252], 0
	for _, n := range []*int{&p.From, &p.Chain, &p.Index, &p.Of, &count} {
		got, long := binary.Uvarint(rest)
		if long <= 0 || got > math.MaxInt {
			return api.Piece{}, false
		}
		*n, rest = int(got), rest[long:]
	}
	if count > len(rest) {
		return api.Piece{}, false
	}
	p.B = bytes.Clone(rest[:count])
	if !hasSector(v, g, mirror, p) || p.Seq%g.Wal != slot || !bytes.Equal(s, sectorOf(v, g, mirror, p)) {
		return api.Piece{}, false
	}
	return p, true
}

// cleanBy is whether a sector is clean, as that of a volume and a place.
func cleanBy(s []byte, v, a int) bool {
	if len(s) != 256 {
		return false
	}
	word := func(at int) int { return int(binary.LittleEndian.Uint32(s[at:])) }
	long := int(binary.LittleEndian.Uint16(s[20:]))
	if s[2] < 1 || s[2] > 4 || long > 228 {
		return false
	}
	b := api.Block{Kind: int(s[2]), Volume: v, Addr: a, Epoch: word(12), Seq: word(16), Body: s[24 : 24+long]}
	return bytes.Equal(s, sealed(b))
}

// triedBy are the pieces of a number that two sectors tell, in the order in which
// they are tried.
func triedBy(s, z []byte, v int, g api.Geo, seq int) []api.Piece {
	p, first := toldBy(s, v, g, 0, seq%g.Wal)
	q, second := toldBy(z, v, g, 1, seq%g.Wal)
	first, second = first && p.Seq == seq, second && q.Seq == seq
	switch {
	case first && second && q.Epoch > p.Epoch:
		return []api.Piece{q, p}
	case first && second:
		return []api.Piece{p, q}
	case first:
		return []api.Piece{p}
	case second:
		return []api.Piece{q}
	}
	return nil
}

// takenBy are the pieces that P11.2 takes.
func takenBy(a, b [][]byte, v int, g api.Geo, start, chain int) ([]api.Piece, api.Errno) {
	var taken []api.Piece
	ahead := chain
numbers:
	for seq := start; seq < start+g.Wal; seq++ {
		slot := seq % g.Wal
		tried := triedBy(a[slot], b[slot], v, g, seq)
		for _, p := range tried {
			from := p.From
			if n := len(taken); n > 0 && taken[n-1].Epoch == p.Epoch {
				from = taken[n-1].From
			} else if n > 0 {
				from = p.Seq
			}
			below := len(taken) > 0 && p.Epoch < taken[len(taken)-1].Epoch
			if p.Chain == ahead && p.From == from && !below {
				taken, ahead = append(taken, p), sumOf(v, g, p)
				continue numbers
			}
		}
		if len(tried) == 0 && !cleanBy(a[slot], v, at(g, 0, slot)) && !cleanBy(b[slot], v, at(g, 1, slot)) {
			return nil, api.ErrDamaged
		}
		break
	}
	return taken, api.OK
}

// followBy is P11.2.
func followBy(a, b [][]byte, v int, g api.Geo, start, chain int) (api.Tail, api.Errno) {
	if !geoMay(g) || !isWord(v) || len(a) != g.Wal || len(b) != g.Wal || !isWord(start) || !isWord(chain) {
		return api.Tail{}, api.ErrArg
	}
	taken, err := takenBy(a, b, v, g, start, chain)
	if err != api.OK {
		return api.Tail{}, err
	}
	t := api.Tail{Next: start, Chain: chain}
	var begun []byte
	goesOn := true
	for i, p := range taken {
		first := t.Next - start // where the transaction begins
		goesOn = goesOn && p.Index == i-first && p.Of == taken[first].Of
		begun = append(begun, p.B...)
		if goesOn && p.Index == p.Of-1 {
			t.Txs, begun = append(t.Txs, begun), nil
			t.Next, t.Chain = p.Seq+1, sumOf(v, g, p)
		}
		t.Epoch = p.Epoch
	}
	return t, api.OK
}

// piecesOf are the pieces of a transaction, from a number, a sum and an epoch on;
// and the sum ahead of what is behind them.
func piecesOf(v int, g api.Geo, seq, epoch, from, chain int, tx []byte) ([]api.Piece, int) {
	var l []api.Piece
	parts := slices.Collect(slices.Chunk(tx, 200))
	if len(parts) == 0 {
		parts = [][]byte{nil}
	}
	for i, b := range parts {
		p := api.Piece{Seq: seq + i, Epoch: epoch, From: from, Chain: chain, Index: i, Of: len(parts), B: b}
		chain = sumOf(v, g, p)
		l = append(l, p)
	}
	return l, chain
}

// putsOf are the writes of pieces: of each its sector in mirror 0, and in mirror 1.
func putsOf(v int, g api.Geo, l []api.Piece) []api.Put {
	var puts []api.Put
	for _, p := range l {
		for mirror := range 2 {
			puts = append(puts, api.Put{At: at(g, mirror, p.Seq%g.Wal), S: sectorOf(v, g, mirror, p)})
		}
	}
	return puts
}

// about are numbers about the edges that a number of a piece may have.
func about() []int {
	return []int{math.MinInt, math.MinInt + 1, -4294967296, -4294967295, -1, 0, 1, 2, 3, 7, 8, 9, 15, 16, 63, 64, 65, 127, 128, 199, 200, 201,
		255, 256, 300, 301, 302, 511, 512, 513, 16383, 16384, 1 << 31, 4294967294, 4294967295, 4294967296, 4294967297, 1 << 40, math.MaxInt - 1, math.MaxInt}
}

// someGeo is a geometry that may be, some a piece that may be, of numbers mixed up.
func someGeo(r *rand.Rand) api.Geo {
	return api.Geo{Wal: 8 + r.IntN(505), Stripes: 1 + r.IntN(32), K: 1 + r.IntN(16), M: 1 + r.IntN(8)}
}

func some(r *rand.Rand) api.Piece {
	word := func() int { return int(r.Uint32() >> r.IntN(32)) }
	p := api.Piece{Seq: word(), Epoch: word(), Chain: word(), Of: 1 + r.IntN(64), B: bytesOf(r, r.IntN(201))}
	p.From, p.Index = r.IntN(p.Seq+1), r.IntN(p.Of)
	return p
}

func bytesOf(r *rand.Rand, n int) []byte {
	b := make([]byte, n)
	for i := range b {
		b[i] = byte(r.Uint32())
	}
	return b
}

// P11.1: whatever numbers it has, it may be, has a sector, and is told again by it,
// as it is reckoned.
func TestNumbersAsReckoned(t *testing.T) {
	r := mixed(1)
	for range 15000 {
		v, g, mirror, p := int(r.Uint32()), someGeo(r), r.IntN(2), some(r)
		for range r.IntN(3) {
			all := append(fields(&p), &v, &g.Wal, &g.Stripes, &g.K, &g.M, &mirror)
			*all[r.IntN(len(all))] = about()[r.IntN(len(about()))]
		}
		may(t, p, mayBe(p))
		s, err := ring.Sector(v, g, mirror, p)
		if !hasSector(v, g, mirror, p) {
			if err != api.ErrArg || s != nil {
				t.Fatalf("Sector(%d, %v, %d, %v): %d, %v", v, g, mirror, p, err, s)
			}
			continue
		}
		if err != api.OK || !bytes.Equal(s, sectorOf(v, g, mirror, p)) {
			t.Fatalf("Sector(%d, %v, %d, %v): %d, %v", v, g, mirror, p, err, s)
		}
		told(t, s, v, g, mirror, p.Seq%g.Wal, p)
	}
}

// spoilt is a piece's sector that something may be wrong with, though it is sealed well.
func spoilt(r *rand.Rand, v int, g api.Geo, mirror int) []byte {
	p := some(r)
	b, l := blockOf(v, g, mirror, p), bodyOf(p)
	for range r.IntN(3) {
		l[r.IntN(5)] = uint64(about()[r.IntN(len(about()))])
	}
	b.Body = append(nums(l[:5-r.IntN(15)/14]...), p.B...)
	switch r.IntN(12) {
	case 0:
		b.Kind = 1 + r.IntN(4)
	case 1:
		b.Addr = r.IntN(2 * (4 + 2*g.Wal))
	case 2:
		b.Body = append(b.Body, make([]byte, r.IntN(3))...)
	case 3:
		b.Body = slices.Insert(b.Body, r.IntN(len(b.Body)), byte(r.IntN(256)))
	case 4:
		b.Body[r.IntN(min(12, len(b.Body)))] = byte(r.IntN(256))
	case 5:
		b.Volume++
	case 6:
		b.Seq += r.IntN(3) - 1
		b.Seq = max(b.Seq, 0)
	}
	b.Body = b.Body[:min(228, len(b.Body))]
	s := sealed(b)
	if r.IntN(8) == 0 {
		s[r.IntN(256)] ^= byte(1 + r.IntN(255))
	}
	return s
}

// P11.1: of sectors that are sealed well, but of which something may be wrong, each
// tells what is reckoned.
func TestToldAsReckoned(t *testing.T) {
	r, good := mixed(2), 0
	for range 15000 {
		v, g, mirror := r.IntN(1000), someGeo(r), r.IntN(2)
		s := spoilt(r, v, g, mirror)
		slot := int(binary.LittleEndian.Uint32(s[16:])) % g.Wal
		for _, one := range []struct{ v, mirror, slot int }{{v, mirror, slot}, {v, 1 - mirror, slot}, {v + 1, mirror, slot}, {v, mirror, slot + 1}} {
			if want, ok := toldBy(s, one.v, g, one.mirror, one.slot); ok {
				told(t, s, one.v, g, one.mirror, one.slot, want)
				good++
			} else {
				toldNothing(t, s, one.v, g, one.mirror, one.slot)
			}
		}
	}
	if good < 3000 || good > 12000 {
		t.Errorf("%d tell something", good)
	}
}

// alter turns a number of a piece a little.
func alter(r *rand.Rand, p api.Piece, wal int) api.Piece {
	switch r.IntN(6) {
	case 0:
		p.Epoch = max(0, p.Epoch+r.IntN(3)-1)
	case 1:
		p.From = max(0, p.From+r.IntN(3)-1)
	case 2:
		p.Chain = r.IntN(3)
	case 3:
		p.Index += r.IntN(3) - 1
	case 4:
		p.Of += r.IntN(3) - 1
	case 5:
		p.Seq += wal * (r.IntN(3) - 1)
	}
	return p
}

// logOf are two mirrors, with a log from start on in which epochs begin anew, and
// of which each sector may be another one's, altered, or nothing.
func logOf(r *rand.Rand, v int, g api.Geo, start, chain int) ([][]byte, [][]byte) {
	l := [][][]byte{freeMirror(v, g, 0), freeMirror(v, g, 1)}
	epoch, from := r.IntN(3), max(0, start-r.IntN(3))
	wrong := r.IntN(70) // of each hundred sectors so many
	for seq := start; seq < start+g.Wal; {
		if r.IntN(6) == 0 {
			epoch, from = epoch+1, seq
		}
		var pieces []api.Piece
		pieces, chain = piecesOf(v, g, seq, epoch, from, chain, bytesOf(r, r.IntN(700)))
		seq += len(pieces)
		for _, p := range pieces {
			for mirror := range 2 {
				one := p
				if r.IntN(100) < wrong {
					one = alter(r, p, g.Wal)
				}
				switch {
				case r.IntN(100) < wrong/2:
					l[mirror][p.Seq%g.Wal] = nil
				case mayBe(one):
					l[mirror][p.Seq%g.Wal] = sectorOf(v, g, mirror, one)
				}
			}
		}
	}
	return l[0], l[1]
}

// P11.2, P11.4: of logs of which each sector may be another one, that is told that
// is reckoned.
func TestFollowAsReckoned(t *testing.T) {
	r := mixed(3)
	var taken, damaged, whole int
	for range 3000 {
		v, g := r.IntN(100), api.Geo{Wal: 8 + r.IntN(10), Stripes: 1, K: 1, M: 1}
		start, chain := r.IntN(100), r.IntN(2)*r.IntN(1<<32)
		a, b := logOf(r, v, g, start, chain)
		want, err := followBy(a, b, v, g, start, chain)
		follow(t, a, b, v, g, start, chain, want, err)
		switch {
		case err == api.ErrDamaged:
			damaged++
		case want.Next == start+g.Wal:
			whole++
		case want.Next > start:
			taken++
		}
	}
	if taken < 300 || damaged < 100 || whole < 100 {
		t.Errorf("%d tell something, %d all, %d are damaged", taken, whole, damaged)
	}
}

// hurtBy lets something go wrong with a device, mostly with the log.
func hurtBy(t *testing.T, r *rand.Rand, d *disk.Disk) {
	t.Helper()
	a := 4 + r.IntN(16)
	switch r.IntN(6) {
	case 0:
		fault(t, d, lose(a))
	case 1:
		fault(t, d, blank(a))
	case 2:
		fault(t, d, rot(a, r.IntN(256)))
	case 3:
		fault(t, d, drop(a, 1+r.IntN(4)))
	case 4:
		fault(t, d, miss(a, r.IntN(d.Len())))
	case 5:
		d.Arm(r.IntN(30) - 1)
	}
}

// model is what a Ring is to be like: the device that is written as it is reckoned,
// and its numbers.
type model struct {
	d                  *disk.Disk
	g                  api.Geo
	epoch, from, start int
	next, chain        int
}

// append is P11.3's.
func (m *model) append(tx []byte) api.Errno {
	l, _ := piecesOf(volume, m.g, m.next, m.epoch, m.from, m.chain, tx)
	switch {
	case len(l) > 64:
		return api.ErrLong
	case m.next-m.start+len(l) > m.g.Wal || m.next+len(l) > 4294967295:
		return api.ErrFull
	}
	for _, p := range l {
		if err := keep.All(m.d, putsOf(volume, m.g, []api.Piece{p})); err != api.OK {
			return err
		}
		m.next, m.chain = p.Seq+1, sumOf(volume, m.g, p)
	}
	return api.OK
}

// P11.3, R5: whatever goes wrong, and whatever was called ahead, a Ring does what is
// reckoned; and Load and Follow tell of the device what is reckoned.
func TestRingsAsReckoned(t *testing.T) {
	r := mixed(4)
	for range 300 {
		g := geometry()
		d := device(t, g)
		start := r.IntN(1 << r.IntN(32))
		next := start + r.IntN(9)
		m := model{d: d.Copy(), g: g, epoch: r.IntN(100), from: next, start: start, next: next, chain: r.IntN(1 << 32)}
		log := newRing(t, d, g, m.epoch, start, next, m.chain)
		first := m
		for range 12 {
			for range r.IntN(2) {
				seed := r.Uint64()
				hurtBy(t, mixed(seed), d)
				hurtBy(t, mixed(seed), m.d)
			}
			if r.IntN(4) == 0 {
				log.Cut()
				m.start = m.next
			}
			tx := bytesOf(r, r.IntN(900))
			want := m.append(tx)
			if err := log.Append(tx); err != want {
				t.Fatalf("Append of %d bytes: %d, not %d", len(tx), err, want)
			}
			stands(t, log, m.next, m.chain)
			alike(t, d, m.d)
			if d.Dead() {
				d.Crash([]bool{true})
				m.d.Crash([]bool{true})
			}
			a, b := load(t, d, g)
			for _, from := range []model{first, m} {
				tail, err := followBy(a, b, volume, g, from.next, from.chain)
				follow(t, a, b, volume, g, from.next, from.chain, tail, err)
			}
			m.d = d.Copy() // as much was read of one as of the other
		}
	}
}

// P1, R1: each call ends, whatever it is given, and none panics.
func TestAnyArguments(t *testing.T) {
	long := make([]byte, 1<<16)
	for _, n := range about() {
		for f := range 6 {
			p, z := ordinary(), api.Piece{}
			*fields(&p)[f], *fields(&z)[f] = n, n
			for _, one := range []api.Piece{p, z} {
				ring.May(one)
				for _, k := range about() {
					ring.Sector(volume, geometry(), k, one)
					ring.Sector(k, geometry(), 0, one)
				}
			}
		}
		for f := range 4 {
			g, z := geometry(), api.Geo{}
			*[]*int{&g.Wal, &g.Stripes, &g.K, &g.M}[f], *[]*int{&z.Wal, &z.Stripes, &z.K, &z.M}[f] = n, n
			for _, one := range []api.Geo{g, z} {
				ring.Sector(volume, one, 0, ordinary())
				ring.Told(sectorOf(volume, geometry(), 0, ordinary()), volume, one, 0, 5)
				for _, d := range []*disk.Disk{nil, {}, device(t, geometry())} {
					ring.Load(d, one)
					ring.New(d, volume, one, 0, 0, 0, 0)
				}
				for _, l := range [][][]byte{nil, {}, {nil}, make([][]byte, 8), slices.Repeat([][]byte{long}, 8)} {
					ring.Follow(l, l, volume, one, 0, 0)
				}
			}
		}
		for _, size := range []int{0, 1, 24, 252, 255, 256, 257, len(long)} {
			ring.Told(long[:size], n, geometry(), 0, 0)
			ring.Told(long[:size], 0, geometry(), n, 0)
			ring.Told(long[:size], 0, geometry(), 0, n)
		}
	}
	zero := new(ring.Ring)
	for _, tx := range [][]byte{nil, {1}, long} {
		if err := zero.Append(tx); err == api.OK {
			t.Errorf("a zero Ring has appended %d bytes", len(tx))
		}
	}
	zero.Cut()
	stands(t, zero, 0, 0)
}
