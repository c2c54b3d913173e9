package snap_test

import (
	"bytes"
	"encoding/hex"
	"math"
	"slices"
	"strings"
	"testing"

	"quartermaster/api"
	"quartermaster/snap"
)

// volume is the one of these tests.
const volume = 7

// small is the chapter's geometry, wide one of more stripes.
func small() api.Geo { return api.Geo{Wal: 8, Stripes: 1, K: 2, M: 1} }

func wide() api.Geo { return api.Geo{Wal: 9, Stripes: 3, K: 3, M: 2} }

// geos are some that may be, at the edges and between.
func geos() []api.Geo {
	return []api.Geo{small(), wide(), {Wal: 8, Stripes: 1, K: 1, M: 1}, {Wal: 10, Stripes: 2, K: 1, M: 8}, {Wal: 8, Stripes: 2, K: 16, M: 1},
		{Wal: 11, Stripes: 32, K: 1, M: 1}, {Wal: 100, Stripes: 4, K: 5, M: 3}, {Wal: 512, Stripes: 1, K: 4, M: 4}, {Wal: 512, Stripes: 32, K: 16, M: 8}}
}

// badGeos are some that may not be.
func badGeos() []api.Geo {
	l := []api.Geo{{}, {Wal: 8}, {Stripes: 1, K: 2, M: 1}}
	for f, wrong := range [][]int{{7, 513}, {0, 33}, {0, 17}, {0, 9}} {
		for _, n := range append(wrong, -1, 1<<32+8, math.MinInt, math.MaxInt) {
			g := small()
			*[]*int{&g.Wal, &g.Stripes, &g.K, &g.M}[f] = n
			l = append(l, g)
		}
	}
	return l
}

// notWords are numbers that no block has; words are such that one has.
func notWords() []int { return []int{-1, 4294967296, math.MinInt, math.MaxInt} }

func words() []int { return []int{0, 1, 1 << 31, 4294967295} }

// notAreas are numbers of no area.
func notAreas() []int { return []int{-1, 2, 1 << 32, 1<<32 + 1, math.MinInt, math.MaxInt} }

// content is so many bytes, of which no two shares are the same.
func content(n int) []byte {
	b := make([]byte, n)
	for i := range b {
		b[i] = byte(i + i/228*7 + 1)
	}
	return b
}

// longs are how many bytes a snapshot may have, about the edges of its shares.
func longs(g api.Geo) []int {
	all := room(g)
	l := []int{0, 1, 227, 228, 229, 300, all - 229, all - 228, all - 227, all - 100, all - 1, all}
	return slices.DeleteFunc(l, func(n int) bool { return n < 0 || n > all })
}

func clones(l [][]byte) [][]byte {
	c := slices.Clone(l)
	for i := range c {
		c[i] = bytes.Clone(l[i])
	}
	return c
}

func same(a, b [][]byte) bool { return slices.EqualFunc(a, b, bytes.Equal) }

func samePuts(a, b []api.Put) bool {
	return slices.EqualFunc(a, b, func(p, q api.Put) bool { return p.At == q.At && bytes.Equal(p.S, q.S) })
}

// first, puts and stripe call what is to be tested, and look at what it answers, and
// at whether what is handed in stays.
func first(t *testing.T, g api.Geo, area, n, want int, errWant api.Errno) {
	t.Helper()
	if a, err := snap.First(g, area, n); a != want || err != errWant {
		t.Errorf("First(%v, %d, %d): %d, %d, not %d, %d", g, area, n, a, err, want, errWant)
	}
}

func puts(t *testing.T, v int, g api.Geo, area, epoch, no int, b []byte, want []api.Put, errWant api.Errno) {
	t.Helper()
	was := bytes.Clone(b)
	l, err := snap.Puts(v, g, area, epoch, no, b)
	if err != errWant || !samePuts(l, want) {
		t.Errorf("Puts(%d, %v, %d, %d, %d) of %d bytes: %d writes, %d, not %d, %d, or others", v, g, area, epoch, no, len(b), len(l), err, len(want), errWant)
	}
	if !bytes.Equal(b, was) {
		t.Error("Puts changes what is handed in")
	}
}

func stripe(t *testing.T, l [][]byte, v int, g api.Geo, area, n, no int, want [][]byte, errWant api.Errno) {
	t.Helper()
	was := clones(l)
	shares, err := snap.Stripe(l, v, g, area, n, no)
	if err != errWant || !same(shares, want) {
		t.Errorf("Stripe of %d, %d, %v, %d, %d, %d: %d shares, %d, not %d, %d, or others", len(l), v, g, area, n, no, len(shares), err, len(want), errWant)
	}
	if !same(l, was) {
		t.Error("Stripe changes what is handed in")
	}
}

// P12.1: the first sector of each stripe of both areas, of several geometries; the
// stripes share none, and fill all that is behind the log.
func TestFirst(t *testing.T) {
	for _, g := range geos() {
		seen := map[int]int{}
		for area := range 2 {
			for n := range g.Stripes {
				first(t, g, area, n, at(g, area, n, 0), api.OK)
				a, _ := snap.First(g, area, n)
				for i := range g.K + g.M {
					seen[a+i]++
				}
			}
		}
		for a := 4 + 2*g.Wal; a < sectors(g); a++ {
			if seen[a] != 1 {
				t.Errorf("%v: the sector %d is in %d stripes", g, a, seen[a])
			}
		}
		if len(seen) != 2*g.Stripes*(g.K+g.M) {
			t.Errorf("%v: the stripes have %d sectors", g, len(seen))
		}
	}
	first(t, small(), 0, 0, 20, api.OK)
	first(t, small(), 1, 0, 23, api.OK)
	first(t, wide(), 0, 2, 32, api.OK)
	first(t, wide(), 1, 2, 47, api.OK)
}

// P12.1: of what may not be there is no first sector.
func TestFirstOfWhatMayNotBe(t *testing.T) {
	for _, g := range badGeos() {
		for _, area := range []int{-1, 0, 1, 2} {
			for _, n := range []int{-1, 0, 1} {
				first(t, g, area, n, 0, api.ErrArg)
			}
		}
	}
	for _, g := range geos() {
		for _, area := range notAreas() {
			for _, n := range []int{-1, 0, g.Stripes - 1, g.Stripes} {
				first(t, g, area, n, 0, api.ErrArg)
			}
		}
		for area := range 2 {
			for _, n := range []int{-1, -g.Stripes, g.Stripes, g.Stripes + 1, 2 * g.Stripes, 1 << 32, math.MinInt, math.MaxInt} {
				first(t, g, area, n, 0, api.ErrArg)
			}
		}
	}
}

// exampleHeads and exampleSums stand ahead of the example's shares in their sectors, and
// behind them; of both areas, volume 1, epoch 2, number 3.
var (
	exampleHeads = []string{
		"514d0400 01000000 14000000 02000000 03000000 e4000000",
		"514d0400 01000000 15000000 02000000 03000000 e4000000",
		"514d0400 01000000 16000000 02000000 03000000 e4000000",
		"514d0400 01000000 17000000 02000000 03000000 e4000000",
		"514d0400 01000000 18000000 02000000 03000000 e4000000",
		"514d0400 01000000 19000000 02000000 03000000 e4000000",
	}
	exampleSums = []string{"ab1ec043", "474c6ff5", "3d665ac5", "f9f29915", "9ffd7767", "d64d88cf"}
)

// exampleShares are the example's, of the 300 bytes from 0 on, one by one.
var exampleShares = []string{
	"000102030405060708090a0b0c0d0e0f 101112131415161718191a1b1c1d1e1f 202122232425262728292a2b2c2d2e2f 303132333435363738393a3b3c3d3e3f" +
		"404142434445464748494a4b4c4d4e4f 505152535455565758595a5b5c5d5e5f 606162636465666768696a6b6c6d6e6f 707172737475767778797a7b7c7d7e7f" +
		"808182838485868788898a8b8c8d8e8f 909192939495969798999a9b9c9d9e9f a0a1a2a3a4a5a6a7a8a9aaabacadaeaf b0b1b2b3b4b5b6b7b8b9babbbcbdbebf" +
		"c0c1c2c3c4c5c6c7c8c9cacbcccdcecf d0d1d2d3d4d5d6d7d8d9dadbdcdddedf e0e1e2e3",
	"e4e5e6e7e8e9eaebecedeeeff0f1f2f3 f4f5f6f7f8f9fafbfcfdfeff00010203 0405060708090a0b0c0d0e0f10111213 1415161718191a1b1c1d1e1f20212223" +
		"2425262728292a2b0000000000000000 00000000000000000000000000000000 00000000000000000000000000000000 00000000000000000000000000000000" +
		"00000000000000000000000000000000 00000000000000000000000000000000 00000000000000000000000000000000 00000000000000000000000000000000" +
		"00000000000000000000000000000000 00000000000000000000000000000000 00000000",
	"5c26a8d25a20aed4abd15f25562ca2d8 afd55b21a9d35d275822acd60e74fa80 e79d1369e19b156f106ae49eed971963 146ee09a1268e69ce399176df58f017b" +
		"3c46c8b23a40ceb424aa25ab26a827a9 28a629a72aa42ba52ca22da32ea02fa1 30be31bf32bc33bd34ba35bb36b837b9 38b639b73ab43bb53cb23db33eb03fb1" +
		"40ce41cf42cc43cd44ca45cb46c847c9 48c649c74ac44bc54cc24dc34ec04fc1 50de51df52dc53dd54da55db56d857d9 58d659d75ad45bd55cd25dd35ed05fd1" +
		"60ee61ef62ec63ed64ea65eb66e867e9 68e669e76ae46be56ce26de36ee06fe1 70fe71ff",
}

// written is what a text of digits by sixteens stands for.
func written(t *testing.T, text string) []byte {
	t.Helper()
	b, err := hex.DecodeString(strings.ReplaceAll(text, " ", ""))
	if err != nil {
		t.Fatal(err)
	}
	return b
}

// example are its bytes, and the writes of these in an area, byte by byte.
func example(t *testing.T, area int) ([]byte, []api.Put) {
	t.Helper()
	var l []api.Put
	for i, share := range exampleShares {
		text := exampleHeads[3*area+i] + share + exampleSums[3*area+i]
		l = append(l, api.Put{At: 20 + 3*area + i, S: written(t, text)})
	}
	return written(t, exampleShares[0]+exampleShares[1])[:300], l
}

// P12.1: the chapter's example, byte by byte, in both areas.
func TestExample(t *testing.T) {
	for area := range 2 {
		b, want := example(t, area)
		puts(t, 1, small(), area, 2, 3, b, want, api.OK)
		puts(t, 1, small(), area, 2, 3, append(b, make([]byte, 156)...), want, api.OK) // the noughts, too
		if !samePuts(want, putsOf(1, small(), area, 2, 3, b)) {
			t.Error("what is reckoned is not what is written here")
		}
	}
}

// P12.2: the chapter's example, of which each share may be lost.
func TestStripeOfTheExample(t *testing.T) {
	for area := range 2 {
		_, l := example(t, area)
		var shares [][]byte
		for _, text := range exampleShares {
			shares = append(shares, written(t, text))
		}
		all := [][]byte{l[0].S, l[1].S, l[2].S}
		stripe(t, all, 1, small(), area, 0, 3, shares, api.OK)
		for lost := range 3 {
			left := clones(all)
			left[lost] = nil
			stripe(t, left, 1, small(), area, 0, 3, shares, api.OK)
			left[(lost+1)%3] = nil
			stripe(t, left, 1, small(), area, 0, 3, nil, api.ErrDamaged)
		}
	}
}

// P12.1: all sectors of all shares of all stripes, in order, and where they stand; of
// several geometries, in both areas, of as many bytes as there may be.
func TestPuts(t *testing.T) {
	for _, g := range geos() {
		for area := range 2 {
			for _, n := range longs(g) {
				b := content(n)
				puts(t, volume, g, area, 5, 3, b, putsOf(volume, g, area, 5, 3, b), api.OK)
			}
		}
		puts(t, volume, g, 1, 5, 3, nil, putsOf(volume, g, 1, 5, 3, nil), api.OK)
	}
}

// P12.1: each number at the edges of what it may be.
func TestPutsAtEdges(t *testing.T) {
	for _, n := range words() {
		b := content(300)
		puts(t, n, small(), 1, 5, 3, b, putsOf(n, small(), 1, 5, 3, b), api.OK)
		puts(t, 1, small(), 0, n, 3, b, putsOf(1, small(), 0, n, 3, b), api.OK)
		puts(t, 1, small(), 1, 5, n, b, putsOf(1, small(), 1, 5, n, b), api.OK)
		puts(t, n, wide(), 0, n, n, b, putsOf(n, wide(), 0, n, n, b), api.OK)
	}
}

// P12.1: of what may not be there are no writes; where there are too many bytes, too,
// that is not told.
func TestPutsOfWhatMayNotBe(t *testing.T) {
	for _, b := range [][]byte{nil, content(1), content(456), content(457), make([]byte, 200000)} {
		for _, g := range badGeos() {
			puts(t, volume, g, 0, 5, 3, b, nil, api.ErrArg)
		}
		for _, area := range notAreas() {
			puts(t, volume, small(), area, 5, 3, b, nil, api.ErrArg)
		}
		for _, n := range notWords() {
			puts(t, n, small(), 0, 5, 3, b, nil, api.ErrArg)
			puts(t, volume, small(), 1, n, 3, b, nil, api.ErrArg)
			puts(t, volume, small(), 0, 5, n, b, nil, api.ErrArg)
			puts(t, n, small(), n, n, n, b, nil, api.ErrArg)
		}
	}
}

// P12.1: more bytes than there is room for are too many.
func TestPutsOfTooMany(t *testing.T) {
	for _, g := range geos() {
		for area := range 2 {
			for _, more := range []int{1, 2, 228, 1 << 20} {
				puts(t, volume, g, area, 5, 3, make([]byte, room(g)+more), nil, api.ErrLong)
			}
		}
	}
}

// sectorsOf are those of a stripe of the snapshot 3 of some bytes, one by one, and the
// shares.
func sectorsOf(g api.Geo, area, n int, b []byte) ([][]byte, [][]byte) {
	shares := sharesOf(g, n, b)
	var l [][]byte
	for i, body := range shares {
		l = append(l, sealed(blockOf(g, area, n, i, 3, body)))
	}
	return l, shares
}

// P12.2: each choice of which sectors of a stripe are left: with K of them, or more, all
// shares are there; with fewer it is told that too much is damaged.
func TestStripeOfWhatIsLeft(t *testing.T) {
	for _, g := range []api.Geo{small(), wide(), {Wal: 8, Stripes: 1, K: 1, M: 1}, {Wal: 8, Stripes: 2, K: 1, M: 8}, {Wal: 8, Stripes: 1, K: 8, M: 1}, {Wal: 8, Stripes: 2, K: 4, M: 3}} {
		for area := range 2 {
			all, shares := sectorsOf(g, area, g.Stripes-1, content(room(g)))
			for choice := range 1 << (g.K + g.M) {
				l, left := slices.Clone(all), 0
				for i := range l {
					if choice>>i&1 == 0 {
						l[i] = nil
					} else {
						left++
					}
				}
				if left >= g.K {
					stripe(t, l, volume, g, area, g.Stripes-1, 3, shares, api.OK)
				} else {
					stripe(t, l, volume, g, area, g.Stripes-1, 3, nil, api.ErrDamaged)
				}
			}
		}
	}
}

// P12.2: the greatest stripe that there is, with K of it left, and with one less.
func TestStripeOfTheGreatest(t *testing.T) {
	g, r := api.Geo{Wal: 512, Stripes: 32, K: 16, M: 8}, mixed(4)
	for range 100 {
		area, n := r.IntN(2), r.IntN(32)
		l, shares := sectorsOf(g, area, n, someBytes(r, room(g)))
		lost := r.Perm(24)
		for _, i := range lost[:8] {
			l[i] = nil
		}
		stripe(t, l, volume, g, area, n, 3, shares, api.OK)
		l[lost[8]] = nil
		stripe(t, l, volume, g, area, n, 3, nil, api.ErrDamaged)
	}
}

// notGood are sectors that are not good at the place of a share: of another kind, volume,
// place or number, with another body, and some that are no sectors. The other place is
// one of that stripe, of the other area, of another stripe, of the log, and of none.
func notGood(g api.Geo, area, n, share int, body []byte) [][]byte {
	one := func(turn func(b *api.Block)) []byte {
		b := blockOf(g, area, n, share, 3, body)
		turn(&b)
		return sealed(b)
	}
	right := one(func(b *api.Block) {})
	l := [][]byte{nil, {}, right[:1], right[:255], append(right[:256:256], 0), append(right[:256:256], right...), make([]byte, 256)}
	for kind := 1; kind < 4; kind++ {
		l = append(l, one(func(b *api.Block) { b.Kind = kind }))
	}
	for _, kind := range []int{0, 5, 132} { // sealed well, but of no kind
		l = append(l, one(func(b *api.Block) { b.Kind = kind }))
	}
	for _, other := range []int{0, 6, 8, 1<<31 + volume, 4294967295} {
		l = append(l, one(func(b *api.Block) { b.Volume = other }))
	}
	for _, a := range []int{at(g, area, n, (share+1)%(g.K+g.M)), at(g, 1-area, n, share), at(g, area, (n+1)%g.Stripes, share), 4, sectors(g), 4294967295} {
		if a != at(g, area, n, share) {
			l = append(l, one(func(b *api.Block) { b.Addr = a }))
		}
	}
	for _, no := range []int{0, 2, 4, 1<<31 + 3, 4294967295} {
		l = append(l, one(func(b *api.Block) { b.Seq = no }))
	}
	for _, long := range []int{0, 1, 227} {
		l = append(l, one(func(b *api.Block) { b.Body = body[:long] }))
	}
	return l
}

// P12.2: a sector that is not good is one that is not there, at each place.
func TestStripeOfWhatIsNotGood(t *testing.T) {
	for _, g := range []api.Geo{small(), wide()} {
		for area := range 2 {
			for n := range g.Stripes {
				all, shares := sectorsOf(g, area, n, content(room(g)))
				for i := range all {
					for _, s := range notGood(g, area, n, i, shares[i]) {
						l := slices.Clone(all)
						l[i] = s
						stripe(t, l, volume, g, area, n, 3, shares, api.OK)
						for k := range g.M { // and as many more as are one too many
							l[(i+1+k)%len(l)] = nil
						}
						stripe(t, l, volume, g, area, n, 3, nil, api.ErrDamaged)
						l[i] = all[i]
						stripe(t, l, volume, g, area, n, 3, shares, api.OK)
					}
				}
			}
		}
	}
}

// P12.2: one byte of a sector that is another one, wherever, makes it one that is not
// there.
func TestStripeOfRottenSectors(t *testing.T) {
	all, shares := sectorsOf(small(), 1, 0, content(300))
	for i := range all {
		for off := range 256 {
			for _, mask := range []byte{1, 16, 128, 255} {
				l := clones(all)
				l[i][off] ^= mask
				stripe(t, l, volume, small(), 1, 0, 3, shares, api.OK)
				l[(i+1)%3] = nil
				stripe(t, l, volume, small(), 1, 0, 3, nil, api.ErrDamaged)
			}
		}
	}
}

// P12.2: of which epoch a sector is does not matter.
func TestStripeOfOtherEpochs(t *testing.T) {
	all, shares := sectorsOf(small(), 0, 0, content(300))
	for i := range all {
		for _, epoch := range words() {
			b := blockOf(small(), 0, 0, i, 3, shares[i])
			b.Epoch = epoch
			l := slices.Clone(all)
			l[i], l[(i+1)%3] = sealed(b), nil
			stripe(t, l, volume, small(), 0, 0, 3, shares, api.OK)
		}
	}
}

// P12.2: where good ones do not go together the first K of them are held for right.
func TestStripeOfWhatDoesNotGoTogether(t *testing.T) {
	all, shares := sectorsOf(small(), 0, 0, content(300))
	other, _ := sectorsOf(small(), 0, 0, content(400))
	stripe(t, [][]byte{all[0], all[1], other[2]}, volume, small(), 0, 0, 3, shares, api.OK)
	data := [][]byte{shares[0], other[1][24:252]}
	stripe(t, [][]byte{all[0], other[1], all[2]}, volume, small(), 0, 0, 3, madeOf(data, 1), api.OK)
	data = dataOf(map[int][]byte{1: shares[1], 2: other[2][24:252]})
	stripe(t, [][]byte{nil, all[1], other[2]}, volume, small(), 0, 0, 3, madeOf(data, 1), api.OK)
}

// P12.2: each number at the edges of what it may be.
func TestStripeAtEdges(t *testing.T) {
	g, b := wide(), content(2000)
	for _, n := range words() {
		for area := range 2 {
			for i, whole := range [][]api.Put{putsOf(n, g, area, 5, 3, b), putsOf(volume, g, area, 5, n, b)} {
				v, no := n, 3
				if i == 1 {
					v, no = volume, n
				}
				for s := range g.Stripes {
					var l [][]byte
					for _, p := range whole[s*5:][:5] {
						l = append(l, p.S)
					}
					l[s], l[s+1] = nil, nil
					stripe(t, l, v, g, area, s, no, sharesOf(g, s, b), api.OK)
					stripe(t, l, v, g, 1-area, s, no, nil, api.ErrDamaged)
					stripe(t, l, v, g, area, (s+1)%3, no, nil, api.ErrDamaged)
					stripe(t, l, v^1, g, area, s, no, nil, api.ErrDamaged)
					stripe(t, l, v, g, area, s, no^1, nil, api.ErrDamaged)
				}
			}
		}
	}
}

// P12.2: of what may not be no stripe is told, though its sectors may be good, or too
// few of them.
func TestStripeOfWhatMayNotBe(t *testing.T) {
	all, _ := sectorsOf(small(), 0, 0, content(300))
	for _, l := range [][][]byte{all, {all[0], nil, nil}, {nil, nil, nil}, nil} {
		for _, g := range badGeos() {
			stripe(t, l, volume, g, 0, 0, 3, nil, api.ErrArg)
		}
		for _, area := range notAreas() {
			stripe(t, l, volume, small(), area, 0, 3, nil, api.ErrArg)
		}
		for _, n := range []int{-1, 1, 2, 1 << 32, math.MinInt, math.MaxInt} {
			stripe(t, l, volume, small(), 0, n, 3, nil, api.ErrArg)
			stripe(t, l, volume, small(), 1, n, 3, nil, api.ErrArg)
		}
		for _, n := range notWords() {
			stripe(t, l, n, small(), 0, 0, 3, nil, api.ErrArg)
			stripe(t, l, volume, small(), 0, 0, n, nil, api.ErrArg)
			stripe(t, l, 1<<32+volume, small(), 0, 0, 3, nil, api.ErrArg)
			stripe(t, l, volume, small(), 0, 0, 1<<32+3, nil, api.ErrArg)
		}
	}
	wideAll, shares := sectorsOf(wide(), 1, 2, content(2000))
	stripe(t, wideAll, volume, wide(), 1, 2, 3, shares, api.OK)
	for _, n := range []int{-1, 3} {
		stripe(t, wideAll, volume, wide(), 1, n, 3, nil, api.ErrArg)
	}
}

// P12.2: a list that has not K and M sectors is none of a stripe, also where K of it are
// good.
func TestStripeOfOtherLengths(t *testing.T) {
	for _, g := range geos() {
		all, shares := sectorsOf(g, 0, 0, content(100))
		stripe(t, all, volume, g, 0, 0, 3, shares, api.OK)
		for n := range len(all) {
			stripe(t, all[:n], volume, g, 0, 0, 3, nil, api.ErrArg)
		}
		stripe(t, nil, volume, g, 0, 0, 3, nil, api.ErrArg)
		stripe(t, append(slices.Clone(all), nil), volume, g, 0, 0, 3, nil, api.ErrArg)
		stripe(t, append(slices.Clone(all), all...), volume, g, 0, 0, 3, nil, api.ErrArg)
	}
}

// fill makes all bytes of lists others, those there is room for behind them, too.
func fill(l ...[]byte) {
	for _, b := range l {
		b = b[:cap(b)]
		for i := range b {
			b[i] = 238
		}
	}
}

// R3: what is answered shares nothing with what was handed in, nor do two lists of it
// with one another, nor with a later answer.
func TestAnswersAreTheCallersOwn(t *testing.T) {
	g, b := wide(), content(2000)
	want := putsOf(volume, g, 1, 5, 3, b)
	l, _ := snap.Puts(volume, g, 1, 5, 3, b)
	fill(b)
	if !samePuts(l, want) {
		t.Error("writes change with what was handed in")
	}
	for i := range l {
		fill(l[i].S)
		if !samePuts(l[i+1:], want[i+1:]) {
			t.Fatalf("with the write %d another one changes", i)
		}
	}
	puts(t, volume, g, 1, 5, 3, content(2000), want, api.OK)
	for lost := range 6 { // with all of them left, too
		all, wantShares := sectorsOf(g, 1, 2, content(2000))
		if lost < len(all) {
			all[lost] = nil
		}
		was := clones(all)
		shares, _ := snap.Stripe(all, volume, g, 1, 2, 3)
		fill(all...)
		if !same(shares, wantShares) {
			t.Error("shares change with what was handed in")
		}
		for i := range shares {
			fill(shares[i])
			if !same(shares[i+1:], wantShares[i+1:]) {
				t.Fatalf("with the share %d another one changes", i)
			}
		}
		stripe(t, was, volume, g, 1, 2, 3, wantShares, api.OK)
	}
}
