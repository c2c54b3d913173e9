package snap_test

import (
	"bytes"
	"encoding/binary"
	"hash/crc32"
	"math"
	"math/rand/v2"
	"slices"
	"testing"

	"quartermaster/api"
	"quartermaster/disk"
	"quartermaster/keep"
	"quartermaster/snap"
)

// mixed is what mixes things up, the same way in each run.
func mixed(seed uint64) *rand.Rand { return rand.New(rand.NewPCG(seed, 12)) }

// sealed is a block's sector by the words of chapter 7 alone, by the library's sum.
func sealed(b api.Block) []byte {
	s := []byte{81, 77, byte(b.Kind), 0}
	for _, n := range []int{b.Volume, b.Addr, b.Epoch, b.Seq} {
		s = binary.LittleEndian.AppendUint32(s, uint32(n))
	}
	s = binary.LittleEndian.AppendUint16(s, uint16(len(b.Body)))
	s = append(append(s, 0, 0), b.Body...)
	s = append(s, make([]byte, 252-len(s))...)
	return binary.LittleEndian.AppendUint32(s, crc32.Checksum(s, crc32.MakeTable(crc32.Castagnoli)))
}

// products are all of the field's, by the words of chapter 1 alone: without carry, and
// less 285 from the top.
var products = func() (l [256][256]byte) {
	for a := range 256 {
		for b := range 256 {
			p := 0
			for k := range 8 {
				p ^= a * (b >> k & 1) << k
			}
			for k := 7; k >= 0; k-- {
				p ^= 285 * (p >> (8 + k) & 1) << k
			}
			l[a][b] = byte(p)
		}
	}
	return l
}()

// inverse is the number whose product with a is 1.
func inverse(a byte) byte { return byte(bytes.IndexByte(products[a][:], 1)) }

// row are the weights by which a share is made of k data: of one of the data it is
// that itself.
func row(k, share int) []byte {
	weights := make([]byte, k)
	for j := range weights {
		if share >= k {
			weights[j] = inverse(byte(share) ^ byte(j))
		} else if share == j {
			weights[j] = 1
		}
	}
	return weights
}

// add adds to a list another one, times by.
func add(l, other []byte, by byte) {
	for i := range l {
		l[i] ^= products[by][other[i]]
	}
}

// madeOf are all shares of data, m more than these.
func madeOf(data [][]byte, m int) [][]byte {
	shares := slices.Clone(data)
	for i := range m {
		share := make([]byte, 228)
		for j, weight := range row(len(data), len(data)+i) {
			add(share, data[j], weight)
		}
		shares = append(shares, share)
	}
	return shares
}

// dataOf are the data that have such shares; as many as there are data are given, by
// their place.
func dataOf(given map[int][]byte) [][]byte {
	k := len(given)
	var rows [][]byte // weights, and the share behind them
	for place, share := range given {
		rows = append(rows, append(row(k, place), share...))
	}
	for c := range k {
		p := c
		for rows[p][c] == 0 {
			p++
		}
		rows[c], rows[p] = rows[p], rows[c]
		one := make([]byte, len(rows[c]))
		add(one, rows[c], inverse(rows[c][c]))
		rows[c] = one
		for i := range rows {
			if i != c {
				add(rows[i], rows[c], rows[i][c])
			}
		}
	}
	for i := range rows {
		rows[i] = rows[i][k:]
	}
	return rows
}

// room is how many bytes a snapshot has at most, at the sector of a share, sectors how
// many there are in all.
func room(g api.Geo) int { return g.Stripes * g.K * 228 }

func at(g api.Geo, area, stripe, share int) int {
	return 4 + 2*g.Wal + (area*g.Stripes+stripe)*(g.K+g.M) + share
}

func sectors(g api.Geo) int { return at(g, 2, 0, 0) }

// sharesOf are the shares of a stripe of a snapshot.
func sharesOf(g api.Geo, stripe int, b []byte) [][]byte {
	all := make([]byte, room(g))
	copy(all, b)
	var data [][]byte
	for j := range g.K {
		data = append(data, all[228*(stripe*g.K+j):][:228])
	}
	return madeOf(data, g.M)
}

// blockOf is that of the share at a place, of the volume and the epoch 5.
func blockOf(g api.Geo, area, stripe, share, no int, body []byte) api.Block {
	return api.Block{Kind: 4, Volume: volume, Addr: at(g, area, stripe, share), Epoch: 5, Seq: no, Body: body}
}

// putsOf are the writes of a snapshot.
func putsOf(v int, g api.Geo, area, epoch, no int, b []byte) []api.Put {
	var l []api.Put
	for stripe := range g.Stripes {
		for i, body := range sharesOf(g, stripe, b) {
			one := blockOf(g, area, stripe, i, no, body)
			one.Volume, one.Epoch = v, epoch
			l = append(l, api.Put{At: one.Addr, S: sealed(one)})
		}
	}
	return l
}

// isWord and geoMay are what P12.1 asks, by numbers of any size; all sectors of a
// geometry are fewer than 4096 where each of its numbers may be.
func isWord(n int) bool { return n >= 0 && n <= 4294967295 }

func geoMay(g api.Geo) bool {
	return g.Wal >= 8 && g.Wal <= 512 && g.Stripes >= 1 && g.Stripes <= 32 && g.K >= 1 && g.K <= 16 && g.M >= 1 && g.M <= 8
}

// stripeMay is whether there is such a stripe.
func stripeMay(g api.Geo, area, stripe int) bool {
	return geoMay(g) && (area == 0 || area == 1) && stripe >= 0 && stripe < g.Stripes
}

// goodBy is the share that a sector tells, and whether it is good.
func goodBy(s []byte, v, a, no int) ([]byte, bool) {
	if len(s) != 256 {
		return nil, false
	}
	epoch := int(binary.LittleEndian.Uint32(s[12:]))
	b := api.Block{Kind: 4, Volume: v, Addr: a, Epoch: epoch, Seq: no, Body: s[24:252]}
	return s[24:252], bytes.Equal(s, sealed(b))
}

// stripeBy is P12.2, but for the list's length.
func stripeBy(l [][]byte, v int, g api.Geo, area, stripe, no int) ([][]byte, api.Errno) {
	if !stripeMay(g, area, stripe) || !isWord(v) || !isWord(no) {
		return nil, api.ErrArg
	}
	given := map[int][]byte{}
	for i, s := range l {
		if body, good := goodBy(s, v, at(g, area, stripe, i), no); good && len(given) < g.K {
			given[i] = body
		}
	}
	if len(given) < g.K {
		return nil, api.ErrDamaged
	}
	return madeOf(dataOf(given), g.M), api.OK
}

// readBy is P12.3's Read of a device that is not dead: its answer, and how many reads
// it takes.
func readBy(d *disk.Disk, v int, g api.Geo, area, no, long int) ([]byte, api.Errno, int) {
	if !stripeMay(g, area, 0) || !isWord(v) || !isWord(no) || long < 0 || long > room(g) {
		return nil, api.ErrArg, 0
	}
	c := d.Copy()
	before := c.Ops()
	var b []byte
	for stripe := range g.Stripes {
		var l [][]byte
		for i := range g.K + g.M {
			s, _ := c.Read(at(g, area, stripe, i))
			l = append(l, s)
		}
		shares, err := stripeBy(l, v, g, area, stripe, no)
		if err != api.OK {
			return nil, err, c.Ops() - before
		}
		b = append(b, bytes.Join(shares[:g.K], nil)...)
	}
	return b[:long], api.OK, c.Ops() - before
}

// about are numbers about the edges that a number of a call may have.
func about() []int {
	return []int{math.MinInt, math.MinInt + 1, -4294967296, -4294967295, -2, -1, 0, 1, 2, 3, 7, 8, 9, 16, 17, 31, 32, 33, 227, 228, 229, 455, 456, 457,
		512, 513, 1 << 31, 4294967294, 4294967295, 4294967296, 4294967297, math.MaxInt - 1, math.MaxInt}
}

// someGeo is a geometry that may be, mostly a small one.
func someGeo(r *rand.Rand) api.Geo {
	most := [4]int{4, 3, 4, 3}
	if r.IntN(40) == 0 {
		most = [4]int{505, 32, 16, 8}
	}
	return api.Geo{Wal: 8 + r.IntN(most[0]), Stripes: 1 + r.IntN(most[1]), K: 1 + r.IntN(most[2]), M: 1 + r.IntN(most[3])}
}

// someBytes are so many, mixed up.
func someBytes(r *rand.Rand, n int) []byte {
	b := make([]byte, n)
	for i := range b {
		b[i] = byte(r.Uint32())
	}
	return b
}

// someWord is a number of a block, of any size.
func someWord(r *rand.Rand) int { return int(r.Uint32() >> r.IntN(32)) }

// spoil makes up to two of these numbers other ones, some time, which may be wrong.
func spoil(r *rand.Rand, numbers ...*int) {
	for range max(0, r.IntN(6)-3) {
		*numbers[r.IntN(len(numbers))] = about()[r.IntN(len(about()))]
	}
}

// P12.1: whatever is handed in, First and Puts answer what is reckoned.
func TestPutsAsReckoned(t *testing.T) {
	r := mixed(1)
	for range 3000 {
		g, area := someGeo(r), r.IntN(2)
		stripe, v, epoch, no := r.IntN(g.Stripes), someWord(r), someWord(r), someWord(r)
		spoil(r, &g.Wal, &g.Stripes, &g.K, &g.M, &area, &stripe, &v, &epoch, &no)
		long := 0
		if geoMay(g) {
			long = min(r.IntN(room(g)+2), r.IntN(room(g)+2))
		}
		want, err := 0, api.ErrArg
		if stripeMay(g, area, stripe) {
			want, err = at(g, area, stripe, 0), api.OK
		}
		first(t, g, area, stripe, want, err)
		b := someBytes(r, long)
		switch {
		case !stripeMay(g, area, 0) || !isWord(v) || !isWord(epoch) || !isWord(no):
			puts(t, v, g, area, epoch, no, b, nil, api.ErrArg)
		case long > room(g):
			puts(t, v, g, area, epoch, no, b, nil, api.ErrLong)
		default:
			puts(t, v, g, area, epoch, no, b, putsOf(v, g, area, epoch, no, b), api.OK)
		}
	}
}

// spoilt is a sector that something may be wrong with, though it is sealed well, of a
// share that stands at a place.
func spoilt(r *rand.Rand, one api.Block) []byte {
	switch r.IntN(16) {
	case 0:
		one.Kind = 1 + r.IntN(4)
	case 1:
		one.Volume ^= 1 << r.IntN(32)
	case 2:
		one.Addr += r.IntN(5) - 2
	case 3:
		one.Addr ^= 1 << r.IntN(32)
	case 4:
		one.Seq ^= 1 << r.IntN(32)
	case 5:
		one.Epoch = someWord(r)
	case 6:
		one.Body = one.Body[:r.IntN(228)]
	case 7:
		one.Body = someBytes(r, 228)
	case 8:
		return nil
	case 9:
		return sealed(one)[:r.IntN(257)]
	case 10:
		return append(sealed(one), 0)
	}
	s := sealed(one)
	if r.IntN(12) == 0 {
		s[r.IntN(256)] ^= byte(1 + r.IntN(255))
	}
	return s
}

// P12.2: of sectors of which something may be wrong, also where those that are good do
// not go together, all shares are told that are reckoned.
func TestStripeAsReckoned(t *testing.T) {
	r, good, bad := mixed(2), 0, 0
	for range 6000 {
		g, area, no := someGeo(r), r.IntN(2), someWord(r)
		n, v := r.IntN(g.Stripes), volume
		var l [][]byte
		for i, body := range sharesOf(g, n, someBytes(r, r.IntN(room(g)+1))) {
			l = append(l, spoilt(r, blockOf(g, area, n, i, no, body)))
		}
		spoil(r, &g.Wal, &area, &n, &v, &no)
		want, err := stripeBy(l, v, g, area, n, no)
		stripe(t, l, v, g, area, n, no, want, err)
		switch err {
		case api.OK:
			good++
		case api.ErrDamaged:
			bad++
		}
	}
	if good < 1500 || bad < 500 {
		t.Errorf("%d are told, %d are damaged", good, bad)
	}
}

// hurtBy lets something go wrong with a device, mostly with its snapshots.
func hurtBy(t *testing.T, r *rand.Rand, d *disk.Disk, g api.Geo) {
	t.Helper()
	a := at(g, r.IntN(2), r.IntN(g.Stripes), r.IntN(g.K+g.M))
	if a >= d.Len() {
		a = r.IntN(d.Len())
	}
	switch r.IntN(6) {
	case 0:
		fault(t, d, lose(a))
	case 1:
		fault(t, d, blank(a))
	case 2:
		fault(t, d, rot(a, r.IntN(256)))
	case 3:
		fault(t, d, drop(a, 1+r.IntN(4)))
	case 4:
		fault(t, d, miss(a, r.IntN(d.Len())))
	case 5:
		d.Arm(r.IntN(40) - 1)
	}
}

// P12.3, R5: whatever goes wrong, and whatever was called ahead, Write does what keep's
// All of the writes does to a copy of the device, and Read answers what is reckoned of
// what it has.
func TestDevicesAsReckoned(t *testing.T) {
	r, good, bad := mixed(3), 0, 0
	for range 400 {
		g := api.Geo{Wal: 8 + r.IntN(2), Stripes: 1 + r.IntN(3), K: 1 + r.IntN(3), M: 1 + r.IntN(3)}
		d := deviceOf(t, sectors(g)-r.IntN(10)/9)
		for range 6 {
			for range r.IntN(3) {
				hurtBy(t, r, d, g)
			}
			b := someBytes(r, r.IntN(room(g)+1))
			v, area, epoch, no, long := volume, r.IntN(2), r.IntN(2), r.IntN(2), len(b)
			spoil(r, &v, &epoch, &no, &area)
			same, want := d.Copy(), api.ErrArg
			if stripeMay(g, area, 0) && isWord(v) && isWord(epoch) && isWord(no) {
				want = keep.All(same, putsOf(v, g, area, epoch, no, b))
			}
			if err := snap.Write(d, v, g, area, epoch, no, b); err != want {
				t.Fatalf("Write: %d, not %d", err, want)
			}
			alike(t, d, same)
			spoil(r, &v, &no, &area, &long)
			if d.Dead() {
				d.Crash([]bool{r.IntN(2) == 0})
			}
			bytesWant, err, ops := readBy(d, v, g, area, no, long)
			read(t, d, v, g, area, no, long, bytesWant, err, ops)
			switch err {
			case api.OK:
				good++
			case api.ErrDamaged:
				bad++
			}
		}
	}
	if good < 700 || bad < 200 {
		t.Errorf("%d are read, %d are damaged", good, bad)
	}
}

// P1, R1: each call ends, whatever it is given, and none panics; what may not be is
// told.
func TestAnyArguments(t *testing.T) {
	huge := make([]byte, 1<<20)
	for _, n := range about() {
		for f := range 11 {
			g, area, no, v, epoch, long, n2 := small(), 1, 3, volume, 5, 300, 0
			*[]*int{&g.Wal, &g.Stripes, &g.K, &g.M, &area, &n2, &v, &epoch, &no, &long, new(int)}[f] = n
			for _, one := range []api.Geo{g, {}, {Wal: n, Stripes: n, K: n, M: n}} {
				snap.First(one, area, n2)
				snap.First(one, n, n)
				snap.Puts(v, one, area, epoch, no, huge[:min(max(0, long), 457)])
				snap.Puts(n, one, n, n, n, huge)
				for _, l := range [][][]byte{nil, {}, {nil, nil, nil}, {huge, huge[:256], huge[:1]}, make([][]byte, 24)} {
					snap.Stripe(l, v, one, area, n2, no)
					snap.Stripe(l, n, one, n, n, n)
				}
				for _, d := range []*disk.Disk{nil, {}, deviceOf(t, 1), deviceOf(t, 26)} {
					snap.Write(d, v, one, area, epoch, no, huge[:300])
					snap.Write(d, n, one, n, n, n, nil)
					snap.Read(d, v, one, area, no, long)
					snap.Read(d, n, one, n, n, n)
				}
			}
		}
	}
	damaged := make([][]byte, 1<<20)
	stripe(t, damaged, volume, small(), 0, 0, 3, nil, api.ErrArg)
	puts(t, volume, small(), 0, 5, 3, huge, nil, api.ErrLong)
}
