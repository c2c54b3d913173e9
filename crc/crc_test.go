package crc_test

import (
	"bytes"
	"hash/crc32"
	"math"
	"math/rand/v2"
	"slices"
	"testing"

	"quartermaster/crc"
)

// top is how many sums there are.
const top = 1 << 32

// reckon is the sum by the words of the chapter alone, bit by bit.
func reckon(b []byte) int {
	sum := top - 1
	for _, next := range b {
		sum ^= int(next)
		for range 8 {
			odd := sum%2 == 1
			sum /= 2
			if odd {
				sum ^= 0x82F63B78
			}
		}
	}
	return top - 1 - sum
}

// laid is a number below 2^32 as 4 bytes, the lowest one first.
func laid(sum int) []byte {
	var l []byte
	for range 4 {
		l = append(l, byte(sum%256))
		sum /= 256
	}
	return l
}

// some are bytes that are mixed up, the same ones in each run.
func some(r *rand.Rand, long int) []byte {
	b := make([]byte, long)
	for i := range b {
		b[i] = byte(r.Uint32())
	}
	return b
}

func mixed(seed uint64) *rand.Rand { return rand.New(rand.NewPCG(seed, 4)) }

// samples are bytes of each length up to 300, and of some greater ones: mixed
// up, all noughts, and all bits.
func samples() [][]byte {
	r := mixed(1)
	l := [][]byte{nil}
	for long := range 301 {
		l = append(l, some(r, long), make([]byte, long), bytes.Repeat([]byte{255}, long))
	}
	for _, long := range []int{1000, 4096, 65537, 1 << 20} {
		l = append(l, some(r, long))
	}
	return l
}

// changed is a copy of b of which bits are turned, from a place on.
func changed(b []byte, at int, bits ...byte) []byte {
	c := slices.Clone(b)
	for i := range bits {
		c[at+i] ^= bits[i]
	}
	return c
}

// P4.1: the chapter's examples, and well known sums of CRC-32C.
func TestSumOfExamples(t *testing.T) {
	for _, c := range []struct {
		b    []byte
		want int
	}{
		{[]byte("123456789"), 3808858755},
		{nil, 0},
		{[]byte{}, 0},
		{[]byte("a"), 0xC1D04330},
		{make([]byte, 32), 0x8A9136AA},
		{bytes.Repeat([]byte{255}, 32), 0x62A8AB43},
		{bytes.Repeat([]byte{255}, 4), top - 1}, // nothing is left of what it begins as
	} {
		if got := crc.Sum(c.b); got != c.want {
			t.Errorf("Sum(%v) = %d, not %d", c.b, got, c.want)
		}
	}
}

// P4.1: each byte by itself, behind another one, and behind all kinds of sums.
func TestSumOfEachByte(t *testing.T) {
	for a := range 256 {
		if got, want := crc.Sum([]byte{byte(a)}), reckon([]byte{byte(a)}); got != want {
			t.Fatalf("Sum(%d) = %d, not %d", a, got, want)
		}
		for b := range 256 {
			pair := []byte{byte(a), byte(b)}
			if got, want := crc.Sum(pair), reckon(pair); got != want {
				t.Fatalf("Sum(%v) = %d, not %d", pair, got, want)
			}
		}
	}
}

// P4.1: sums at each length, by two reckonings that are not the program's.
func TestSumAtEachLength(t *testing.T) {
	table := crc32.MakeTable(crc32.Castagnoli)
	for _, b := range samples() {
		got := crc.Sum(b)
		if want := reckon(b); got != want {
			t.Fatalf("%d bytes: %d, not %d", len(b), got, want)
		}
		if want := int(crc32.Checksum(b, table)); got != want {
			t.Fatalf("%d bytes: %d, not the library's %d", len(b), got, want)
		}
	}
}

// P4.1: wherever bytes are split, the sum of the first part and More of the
// second one are the sum of all.
func TestMoreGoesOnAtEachSplit(t *testing.T) {
	r := mixed(2)
	for long := range 80 {
		b := some(r, long)
		want := reckon(b)
		for at := range long + 1 {
			if got := crc.More(crc.Sum(b[:at]), b[at:]); got != want {
				t.Fatalf("%d bytes, split at %d: %d, not %d", long, at, got, want)
			}
		}
		each := crc.Sum(nil)
		for i := range b {
			each = crc.More(each, b[i:i+1])
		}
		if each != want {
			t.Fatalf("%d bytes, one by one: %d, not %d", long, each, want)
		}
	}
}

// P4.1: More of nothing is the sum itself, modulo 2^32: of one below 0, and
// of one from 2^32 on.
func TestMoreOfNothingIsTheSumModulo(t *testing.T) {
	for _, c := range []struct{ sum, want int }{
		{0, 0}, {1, 1}, {3808858755, 3808858755}, {1 << 31, 1 << 31}, {top - 1, top - 1},
		{top, 0}, {top + 1, 1}, {2*top - 1, top - 1}, {7*top + 29, 29},
		{-1, top - 1}, {-29, top - 29}, {-(1 << 31), 1 << 31}, {-top, 0}, {-top - 1, top - 1}, {-top + 1, 1},
		{math.MaxInt64, top - 1}, {math.MaxInt64 - top, top - 1}, {math.MinInt64, 0}, {math.MinInt64 + 1, 1},
	} {
		for _, b := range [][]byte{nil, {}} {
			if got := crc.More(c.sum, b); got != c.want {
				t.Errorf("More(%d, nothing) = %d, not %d", c.sum, got, c.want)
			}
		}
	}
}

// P4.1: a sum that is handed in counts modulo 2^32, whatever is behind it.
func TestMoreTakesTheSumModulo(t *testing.T) {
	r := mixed(3)
	for _, long := range []int{1, 2, 3, 4, 5, 9, 64, 256} {
		for range 50 {
			ahead, b := some(r, 1+int(r.Uint32()%9)), some(r, long)
			sum, want := reckon(ahead), reckon(slices.Concat(ahead, b))
			for _, far := range []int{0, 1, 2, 1000, 1<<31 - 1, -1, -2, -1000, -(1 << 31)} {
				if got := crc.More(sum+far*top, b); got != want {
					t.Fatalf("More(%d, %v) = %d, not %d", sum+far*top, b, got, want)
				}
			}
		}
	}
}

// P4.1: sums are from 0 to 2^32 - 1, whatever is handed in.
func TestSumsAreBelowTheTop(t *testing.T) {
	r := mixed(4)
	for range 5000 {
		sum, b := int(r.Uint64()), some(r, int(r.Uint32()%8))
		if got := crc.More(sum, b); got < 0 || got >= top {
			t.Fatalf("More(%d, %v) = %d", sum, b, got)
		}
		if got := crc.Sum(b); got < 0 || got >= top {
			t.Fatalf("Sum(%v) = %d", b, got)
		}
	}
}

// P4.2: what is sealed is the bytes, and behind them their sum.
func TestSealLaysTheSumBehind(t *testing.T) {
	if got := crc.Seal([]byte("123456789")); !bytes.Equal(got, append([]byte("123456789"), 0x83, 0x92, 0x06, 0xE3)) {
		t.Errorf("Seal of the example: %v", got)
	}
	for _, b := range [][]byte{nil, {}} {
		if got := crc.Seal(b); !bytes.Equal(got, make([]byte, 4)) {
			t.Errorf("Seal of nothing: %v", got)
		}
	}
	for _, b := range samples() {
		if got := crc.Seal(b); !bytes.Equal(got, slices.Concat(b, laid(reckon(b)))) {
			t.Fatalf("Seal of %d bytes has %d, or others", len(b), len(got))
		}
	}
}

// P4.2: fewer than 4 bytes are never whole.
func TestWholeOfTooFew(t *testing.T) {
	for _, b := range [][]byte{nil, {}, {0}, {0, 0}, {0, 0, 0}, {255, 255, 255}, crc.Seal(nil)[:3], crc.Seal([]byte{7})[:3], crc.Seal([]byte{7})[2:]} {
		if crc.Whole(b) {
			t.Errorf("%v is whole", b)
		}
	}
	for a := range 256 {
		for b := range 256 {
			for _, few := range [][]byte{{byte(a)}, {byte(a), byte(b)}, {byte(a), byte(b), 0}, {0, byte(a), byte(b)}, {byte(a), 0, byte(b)}} {
				if crc.Whole(few) {
					t.Fatalf("%v is whole", few)
				}
			}
		}
	}
}

// P4.2: of 4 bytes just the noughts are whole: the sum of nothing.
func TestWholeOfFour(t *testing.T) {
	if !crc.Whole(make([]byte, 4)) {
		t.Error("4 noughts are not whole")
	}
	for at := range 4 {
		for bits := 1; bits < 256; bits++ {
			if b := changed(make([]byte, 4), at, byte(bits)); crc.Whole(b) {
				t.Fatalf("%v is whole", b)
			}
		}
	}
	r := mixed(5)
	for range 5000 {
		if b := some(r, 4); !bytes.Equal(b, make([]byte, 4)) && crc.Whole(b) {
			t.Fatalf("%v is whole", b)
		}
	}
}

// P4.2: whole is what has the sum of all ahead as its last 4 bytes, and
// nothing else: not the sum in another order, ahead, of less, or of more.
func TestWholeTellsTheSumAlone(t *testing.T) {
	for _, b := range samples() {
		sum := laid(reckon(b))
		if !crc.Whole(slices.Concat(b, sum)) {
			t.Fatalf("%d bytes and their sum are not whole", len(b))
		}
		back := slices.Clone(sum)
		slices.Reverse(back)
		other := laid(top - 1 - reckon(b))
		for _, wrong := range [][]byte{back, other, sum[:3], append(slices.Clone(sum), 1), changed(sum, 0, 1), changed(sum, 3, 128)} {
			c := slices.Concat(b, wrong)
			want := len(c) >= 4 && bytes.Equal(c[len(c)-4:], laid(reckon(c[:len(c)-4])))
			if got := crc.Whole(c); got != want {
				t.Fatalf("%d bytes and %v: %v, not %v", len(b), wrong, got, want)
			}
		}
	}
}

// P4.3: what is sealed is whole, also when it is sealed again and again.
func TestSealedIsWhole(t *testing.T) {
	for _, b := range samples() {
		if !crc.Whole(crc.Seal(b)) {
			t.Fatalf("%d bytes, sealed, are not whole", len(b))
		}
		if !crc.Whole(crc.Seal(crc.Seal(b))) {
			t.Fatalf("%d bytes, sealed twice, are not whole", len(b))
		}
	}
}

// P4.3: each change of one byte, and each of two, at each place of what is
// sealed: among the bytes, in the sum, and across where it begins.
func TestEachChangeOfUpToTwoBytesIsTold(t *testing.T) {
	for _, b := range [][]byte{nil, {0}, {1, 2, 3}} {
		sealed := crc.Seal(b)
		for at := range sealed {
			for bits := 1; bits < 256; bits++ {
				if crc.Whole(changed(sealed, at, byte(bits))) {
					t.Fatalf("%v, at %d turned by %d, is whole", sealed, at, bits)
				}
			}
		}
		for at := range len(sealed) - 1 {
			for bits := 1; bits < 1<<16; bits++ {
				if crc.Whole(changed(sealed, at, byte(bits), byte(bits>>8))) {
					t.Fatalf("%v, from %d on turned by %d, is whole", sealed, at, bits)
				}
			}
		}
	}
}

// P4.3: changes of up to 4 bytes in a row, of all kinds, at each place.
func TestChangesOfUpToFourBytesAreTold(t *testing.T) {
	r := mixed(6)
	for _, long := range []int{0, 1, 2, 3, 4, 5, 8, 13, 40, 252} {
		sealed := crc.Seal(some(r, long))
		for at := range sealed {
			for wide := 1; wide <= min(4, len(sealed)-at); wide++ {
				for range 30 {
					bits := some(r, wide)
					bits[r.IntN(wide)] |= 1 << r.IntN(8) // at least one bit is changed
					if crc.Whole(changed(sealed, at, bits...)) {
						t.Fatalf("%v, from %d on turned by %v, is whole", sealed, at, bits)
					}
				}
				set := slices.Clone(sealed) // bytes that are wiped, or filled, not turned
				for _, with := range []byte{0, 255} {
					copy(set[at:at+wide], bytes.Repeat([]byte{with}, wide))
					if crc.Whole(set) != bytes.Equal(set, sealed) {
						t.Fatalf("%v, from %d on %d times %d: %v", sealed, at, wide, with, crc.Whole(set))
					}
				}
			}
		}
	}
}

// differs is in which bits the last 4 bytes and the sum of those ahead differ.
func differs(b []byte) uint32 {
	at := len(b) - 4
	sum := uint32(crc.Sum(b[:at]))
	for i := range 4 {
		sum ^= uint32(b[at+i]) << (8 * i)
	}
	return sum
}

// independent tells whether no choice of some of them is, taken together
// without carry, nothing.
func independent(l []uint32) bool {
	var tops [32]uint32 // by its highest bit
	for _, v := range l {
		for k := 31; k >= 0 && v != 0; k-- {
			if v>>k&1 == 0 {
				continue
			}
			if tops[k] == 0 {
				tops[k] = v
				break
			}
			v ^= tops[k]
		}
		if v == 0 {
			return false
		}
	}
	return true
}

// P4.3: all 2^32 changes of 4 bytes at each place. What a change does to the
// sum is what its bits do, one by one, taken together without carry; so all
// changes are told where no choice of these 32 comes to nothing.
func TestAllChangesOfFourBytesAreTold(t *testing.T) {
	r := mixed(7)
	for _, long := range []int{0, 1, 2, 3, 4, 7, 64, 252, 600} {
		sealed := crc.Seal(some(r, long))
		for at := range len(sealed) - 3 {
			var does []uint32
			for bit := range 32 {
				does = append(does, differs(changed(sealed, at+bit/8, 1<<(bit%8))))
			}
			if !independent(does) {
				t.Fatalf("%d bytes: changes from %d on are not told", long, at)
			}
			for range 4 {
				bits := r.Uint32()
				var want uint32
				for bit := range 32 {
					if bits>>bit&1 == 1 {
						want ^= does[bit]
					}
				}
				now := changed(sealed, at, byte(bits), byte(bits>>8), byte(bits>>16), byte(bits>>24))
				if got := differs(now); got != want || crc.Whole(now) != (want == 0) {
					t.Fatalf("%d bytes, from %d on turned by %d: %d, not %d", long, at, bits, got, want)
				}
			}
		}
	}
}

// R3: what is handed in stays as it was, also behind its end, where its
// memory goes on.
func TestWhatIsHandedInStays(t *testing.T) {
	memory := []byte("123456789 and behind")
	ahead := slices.Clone(memory)
	b := memory[:9]
	sealed := crc.Seal(b)
	crc.Sum(b)
	crc.More(7, b)
	crc.Whole(b)
	crc.Whole(sealed)
	if !bytes.Equal(memory, ahead) {
		t.Errorf("it became %q", memory)
	}
	if want := append([]byte("123456789"), laid(3808858755)...); !bytes.Equal(sealed, want) {
		t.Errorf("what is sealed became %v", sealed)
	}
}

// R3: what is answered is the caller's own: a change of it changes neither
// what was handed in nor another answer, and the other way round.
func TestWhatIsAnsweredIsTheCallersOwn(t *testing.T) {
	for _, b := range [][]byte{nil, {}, {1}, []byte("123456789"), make([]byte, 9, 64)} {
		ahead := slices.Clone(b)
		one, two := crc.Seal(b), crc.Seal(b)
		want := slices.Clone(two)
		for i := range one {
			one[i] ^= 255
		}
		one = append(one, 9)
		if !bytes.Equal(b, ahead) || !bytes.Equal(two, want) {
			t.Errorf("%v: became %v, and another answer %v", ahead, b, two)
		}
		for i := range b {
			b[i] ^= 255
		}
		if !bytes.Equal(two, want) {
			t.Errorf("%v: the answer became %v", ahead, two)
		}
	}
}

// R5: answers hang on nothing that was asked before, nor at the same time.
func TestNothingIsKept(t *testing.T) {
	b := []byte("123456789")
	answers := make(chan bool)
	for i := range 4 {
		go func() {
			right := true
			for n := range 100 {
				crc.More(i-n, b[:n%10])
				crc.Whole(b)
				right = right && crc.Sum(b) == 3808858755 && crc.Whole(crc.Seal(b))
			}
			answers <- right
		}()
	}
	for range 4 {
		if !<-answers {
			t.Error("an answer hung on others")
		}
	}
}
