package rs_test

import (
	"bytes"
	"math"
	"math/rand/v2"
	"slices"
	"testing"

	"quartermaster/api"
	"quartermaster/rs"
)

// product is the field's, by its words alone: polynomials are multiplied
// without carry, and divided by the number 285 from the top.
func product(a, b byte) byte {
	p := 0
	for k := range 8 {
		if b>>k&1 == 1 {
			p ^= int(a) << k
		}
	}
	for k := 14; k >= 8; k-- {
		if p>>k&1 == 1 {
			p ^= 285 << (k - 8)
		}
	}
	return byte(p)
}

// products are all products, so that long tests need not work each out again.
var products = func() (l [256][256]byte) {
	for a := range 256 {
		for b := range 256 {
			l[a][b] = product(byte(a), byte(b))
		}
	}
	return l
}()

// inverse is the number whose product with a is 1; there is none of 0.
func inverse(a byte) byte { return byte(bytes.IndexByte(products[a][:], 1)) }

// filled are lists of bytes that are told by which list, and where in it.
func filled(n, long int, number func(i, k int) byte) [][]byte {
	l := make([][]byte, n)
	for i := range l {
		l[i] = make([]byte, long)
		for k := range l[i] {
			l[i][k] = number(i, k)
		}
	}
	return l
}

// some are lists of bytes that are mixed up, the same ones in each run.
func some(r *rand.Rand, n, long int) [][]byte {
	return filled(n, long, func(i, k int) byte { return byte(r.Uint32()) })
}

func mixed(seed uint64) *rand.Rand { return rand.New(rand.NewPCG(seed, 3)) }

// weight is how often the data k goes into the share that is so far behind
// the data: Cauchy's number of a matrix of as many columns as there are data.
func weight(data, behind, k int) byte { return inverse(byte(data+behind) ^ byte(k)) }

// made are the shares behind the data, number by number.
func made(data [][]byte, more int) [][]byte {
	l := make([][]byte, more)
	for i := range l {
		l[i] = make([]byte, len(data[0]))
		for k := range data {
			by := &products[weight(len(data), i, k)]
			for at, number := range data[k] {
				l[i][at] ^= by[number]
			}
		}
	}
	return l
}

// whole are all shares of data.
func whole(data [][]byte, more int) [][]byte { return append(copied(data), made(data, more)...) }

func equal(a, b [][]byte) bool { return slices.EqualFunc(a, b, bytes.Equal) }

func copied(l [][]byte) [][]byte {
	if l == nil {
		return nil
	}
	c := make([][]byte, len(l))
	for i := range l {
		c[i] = bytes.Clone(l[i])
	}
	return c
}

// without are shares of which these are lost, in each of the ways in which one
// may have no bytes.
func without(shares [][]byte, lost ...int) [][]byte {
	l := copied(shares)
	for n, i := range lost {
		switch n % 3 {
		case 0:
			l[i] = nil
		case 1:
			l[i] = []byte{}
		default:
			l[i] = l[i][:0] // its old bytes are still behind it
		}
	}
	return l
}

// upTo are the indices below n.
func upTo(n int) []int {
	l := make([]int, n)
	for i := range l {
		l[i] = i
	}
	return l
}

// sizes are k and more, at the edges and between.
func sizes() [][2]int {
	return [][2]int{{1, 0}, {1, 1}, {2, 0}, {2, 1}, {1, 63}, {63, 1}, {64, 0}, {32, 32}, {16, 8}, {16, 48}, {48, 16}, {62, 2}, {2, 62}, {3, 2}, {63, 0}}
}

// wrongSizes are k and more of which there are no rows.
func wrongSizes() [][2]int {
	return [][2]int{
		{0, 0}, {0, 1}, {0, 64}, {-1, 0}, {-1, 2}, {-1, 65}, {math.MinInt, 0}, {math.MinInt, 1}, {math.MinInt, math.MaxInt},
		{math.MinInt, math.MinInt}, {1, -1}, {2, -1}, {64, -1}, {65, -1}, {65, -2}, {128, -64}, {1, math.MinInt}, {64, math.MinInt}, {math.MaxInt, math.MinInt},
		{1, 64}, {64, 1}, {65, 0}, {65, 1}, {32, 33}, {33, 32}, {64, 64}, {2, 63}, {63, 2}, {256, 0}, {257, 1}, {1, 256}, {1, 1 << 32}, {1 << 32, 1},
		{1, math.MaxInt}, {64, math.MaxInt}, {math.MaxInt, 1}, {math.MaxInt, 0}, {math.MaxInt, math.MaxInt}, {math.MaxInt, 2}, {2, math.MaxInt},
	}
}

// noRows holds what Rows, Encode or Decode answers against an error.
func noRows(t *testing.T, what string, got [][]byte, err, want api.Errno) {
	t.Helper()
	if len(got) != 0 || err != want {
		t.Errorf("%s: %d of them and %d, not %d alone", what, len(got), err, want)
	}
}

// P3.1: One's rows, and Cauchy's behind them, of each size there is.
func TestRows(t *testing.T) {
	for k := 1; k <= 64; k++ {
		for more := 0; k+more <= 64; more++ {
			want := filled(k+more, k, func(i, c int) byte {
				switch {
				case i >= k:
					return weight(k, i-k, c)
				case i == c:
					return 1
				}
				return 0
			})
			if got, err := rs.Rows(k, more); err != api.OK || !equal(got, want) {
				t.Fatalf("Rows(%d, %d): %v, %d, not %v", k, more, got, err, want)
			}
		}
	}
}

// P3.1: k below 1, more below 0, or more than 64 together, also where the sum
// of both would leave 64 bits.
func TestRowsOfWrongSizes(t *testing.T) {
	for _, c := range wrongSizes() {
		got, err := rs.Rows(c[0], c[1])
		noRows(t, "Rows", got, err, api.ErrArg)
	}
	for k := -3; k <= 70; k++ {
		for more := -3; more <= 70; more++ {
			if k >= 1 && more >= 0 && k+more <= 64 {
				continue
			}
			got, err := rs.Rows(k, more)
			noRows(t, "Rows", got, err, api.ErrArg)
		}
	}
}

func TestExamples(t *testing.T) {
	if got, err := rs.Rows(2, 1); err != api.OK || !equal(got, [][]byte{{1, 0}, {0, 1}, {142, 244}}) {
		t.Errorf("Rows(2, 1): %v, %d", got, err)
	}
	if got, err := rs.Encode([][]byte{{1}, {2}}, 1); err != api.OK || !equal(got, [][]byte{{123}}) {
		t.Errorf("Encode of 1 and 2: %v, %d", got, err)
	}
	all := [][]byte{{1}, {2}, {123}}
	for lost := range all {
		if got, err := rs.Decode(without(all, lost), 2); err != api.OK || !equal(got, all) {
			t.Errorf("without the share %d: %v, %d", lost, got, err)
		}
	}
}

// P3.1: what is behind the data is the rows behind One, times the data.
func TestEncode(t *testing.T) {
	r := mixed(1)
	for _, c := range sizes() {
		for _, long := range []int{1, 2, 64, 65, 228} {
			for name, data := range map[string][][]byte{
				"some":    some(r, c[0], long),
				"noughts": filled(c[0], long, func(i, k int) byte { return 0 }),
				"alike":   filled(c[0], long, func(i, k int) byte { return 255 }),
			} {
				if got, err := rs.Encode(data, c[1]); err != api.OK || !equal(got, made(data, c[1])) {
					t.Errorf("%s: %d data of %d bytes, %d more: %v, %d", name, c[0], long, c[1], got, err)
				}
			}
		}
	}
}

// P3.1: each size there is.
func TestEncodeOfEachSize(t *testing.T) {
	r := mixed(2)
	for k := 1; k <= 64; k++ {
		for more := 0; k+more <= 64; more++ {
			data := some(r, k, 2)
			if got, err := rs.Encode(data, more); err != api.OK || !equal(got, made(data, more)) {
				t.Fatalf("%d data, %d more: %v, %d", k, more, got, err)
			}
		}
	}
}

// P3.1: shares of 4095 and 4096 bytes may be.
func TestEncodeOfLongOnes(t *testing.T) {
	r := mixed(3)
	for _, long := range []int{4095, 4096} {
		for _, c := range [][2]int{{1, 0}, {1, 1}, {1, 63}, {63, 1}, {64, 0}, {32, 32}} {
			data := some(r, c[0], long)
			if got, err := rs.Encode(data, c[1]); err != api.OK || !equal(got, made(data, c[1])) {
				t.Errorf("%d data of %d bytes, %d more: %d of them, %d", c[0], long, c[1], len(got), err)
			}
		}
	}
}

// P3.1: none more are none, and no error.
func TestEncodeNoneMore(t *testing.T) {
	for k := 1; k <= 64; k++ {
		got, err := rs.Encode(filled(k, 3, func(i, k int) byte { return 7 }), 0)
		noRows(t, "none more", got, err, api.OK)
	}
}

// unequal are lists of bytes that are no data.
func unequal() map[string][][]byte {
	number := func(i, k int) byte { return 1 }
	last := filled(60, 3, number)
	last[59] = last[59][:2]
	return map[string][][]byte{
		"nil":                 nil,
		"none":                {},
		"one of nothing":      {{}},
		"one nil":             {nil},
		"all of nothing":      {{}, {}, {}},
		"a nil one behind":    {{1}, nil},
		"a nil one ahead":     {nil, {1}},
		"a short one in it":   {{1, 2}, {1}, {1, 2}},
		"a short one at last": last,
		"a longer one behind": {{1, 2}, {1, 2, 3}},
		"65":                  filled(65, 1, number),
		"65 of nothing":       make([][]byte, 65),
		"1000":                filled(1000, 2, number),
		"one of 4097 bytes":   filled(1, 4097, number),
		"60 of 4097 bytes":    filled(60, 4097, number),
		"one of 4097 behind":  append(filled(3, 4096, number), make([]byte, 4097)),
	}
}

// P3.1: data that may not be, with any more; and data that may, with more of
// which there are no rows.
func TestEncodeOfWrongOnes(t *testing.T) {
	for name, data := range unequal() {
		for _, more := range []int{0, 1, 2, 63, 64, -1, math.MaxInt, math.MinInt} {
			got, err := rs.Encode(data, more)
			noRows(t, name, got, err, api.ErrArg)
		}
	}
	for _, c := range wrongSizes() {
		if c[0] < 0 || c[0] > 1000 {
			continue
		}
		for _, long := range []int{1, 4096} {
			got, err := rs.Encode(filled(c[0], long, func(i, k int) byte { return 3 }), c[1])
			noRows(t, "more of which there are no rows", got, err, api.ErrArg)
		}
	}
}

// checkDecode tells whether Decode answers all shares as P3.2 has it, whatever
// is left: the first k that are left stay, and the others are made anew. The
// data is the only one that has these, so that no more need be looked at.
func checkDecode(t *testing.T, shares [][]byte, k int) {
	t.Helper()
	got, err := rs.Decode(shares, k)
	if err != api.OK || len(got) != len(shares) {
		t.Fatalf("%d of %d shares, %d", len(got), len(shares), err)
	}
	held := 0
	for i, share := range shares {
		if len(share) == 0 || held == k {
			continue
		}
		held++
		if !bytes.Equal(got[i], share) {
			t.Fatalf("the share %d was right, and has become another one", i)
		}
	}
	if !equal(got[k:], made(got[:k], len(shares)-k)) {
		t.Fatalf("%d of %d: what is behind the data is not made of it", k, len(shares))
	}
}

// checkAll tells whether Decode answers these shares, without some of them.
func checkAll(t *testing.T, all [][]byte, k int, lost ...int) {
	t.Helper()
	if got, err := rs.Decode(without(all, lost...), k); err != api.OK || !equal(got, all) {
		t.Fatalf("%d of %d, without %v: %d of them, %d", k, len(all), lost, len(got), err)
	}
}

// members are the indices below n that are bits of a set.
func members(set, n int) []int {
	var l []int
	for i := range n {
		if set>>i&1 == 1 {
			l = append(l, i)
		}
	}
	return l
}

// P3.2, P3.3: whatever is lost of up to 9 shares: all is there again, as long
// as k are left; else it is told that too much is lost.
func TestEachLossOfFew(t *testing.T) {
	r := mixed(4)
	for n := 1; n <= 9; n++ {
		for k := 1; k <= n; k++ {
			all := whole(some(r, k, 3), n-k)
			for set := range 1 << n {
				lost := members(set, n)
				if n-len(lost) >= k {
					checkAll(t, all, k, lost...)
					continue
				}
				got, err := rs.Decode(without(all, lost...), k)
				noRows(t, "too few are left", got, err, api.ErrLost)
			}
		}
	}
}

// P3.2: whatever the shares are, the first k that are left are held for right.
func TestEachLossOfSharesThatAreNotOfOneData(t *testing.T) {
	r := mixed(5)
	for n := 1; n <= 8; n++ {
		for k := 1; k <= n; k++ {
			for set := range 1 << n {
				if lost := members(set, n); n-len(lost) >= k {
					checkDecode(t, without(some(r, n, 2), lost...), k)
				}
			}
		}
	}
}

// P3.2: a share behind the first k that are left is made anew where it is wrong.
func TestWrongSharesBehindAreMadeAnew(t *testing.T) {
	r := mixed(6)
	all := whole(some(r, 3, 5), 4)
	for set := range 1 << 7 {
		lost := members(set, 7)
		shares := without(all, lost...)
		held := 0
		for i := range shares {
			if len(shares[i]) == 0 {
				continue
			}
			if held++; held > 3 {
				shares[i][r.IntN(5)] ^= byte(1 + r.IntN(255))
			}
		}
		if held < 3 {
			continue
		}
		if got, err := rs.Decode(shares, 3); err != api.OK || !equal(got, all) {
			t.Fatalf("without %v, and with wrong ones behind: %v, %d, not %v", lost, got, err, all)
		}
	}
}

// P3.2: and a wrong one among the first k is held for right.
func TestWrongSharesAheadStay(t *testing.T) {
	all := whole([][]byte{{1, 2}, {3, 4}, {5, 6}}, 2)
	for _, lost := range [][]int{{}, {0}, {1}, {0, 1}, {2, 3}} {
		shares := without(all, lost...)
		for i := range shares {
			if len(shares[i]) > 0 {
				shares[i][0] ^= 9
				break
			}
		}
		checkDecode(t, shares, 3)
		if got, _ := rs.Decode(shares, 3); equal(got, all) {
			t.Errorf("without %v: a wrong share has become a right one", lost)
		}
	}
}

// P3.3: many shares, up to 64, of which any are lost, as long as k are left.
func TestLossesOfMany(t *testing.T) {
	r := mixed(7)
	for _, c := range sizes() {
		k, n := c[0], c[0]+c[1]
		all := whole(some(r, k, 7), c[1])
		for range 20 {
			checkAll(t, all, k, r.Perm(n)[:r.IntN(c[1]+1)]...)
		}
		for range 10 { // just k are left
			checkAll(t, all, k, r.Perm(n)[:c[1]]...)
		}
		checkAll(t, all, k)
		checkAll(t, all, k, upTo(c[1])...)
		checkAll(t, all, k, upTo(n)[k:]...)
	}
}

// P3.3: each single one of 64 shares may be lost.
func TestEachSingleLossOf64(t *testing.T) {
	all := whole(some(mixed(8), 63, 2), 1)
	for lost := range all {
		checkAll(t, all, 63, lost)
	}
}

// P3.3: each single one of 64 shares may be the one that is left.
func TestEachSingleOneThatIsLeftOf64(t *testing.T) {
	all := whole([][]byte{{0, 1, 2, 255}}, 63)
	for left := range all {
		checkAll(t, all, 1, slices.Delete(upTo(64), left, left+1)...)
	}
}

// P3.2, P3.3: each size there is, with the first ones lost, and just k left.
func TestDecodeOfEachSize(t *testing.T) {
	r := mixed(10)
	for k := 1; k <= 64; k++ {
		for more := 0; k+more <= 64; more++ {
			checkAll(t, whole(some(r, k, 1), more), k, upTo(more)...)
		}
	}
}

// P3.2: shares of 4095 and 4096 bytes.
func TestDecodeOfLongOnes(t *testing.T) {
	r := mixed(11)
	for _, long := range []int{4095, 4096} {
		for _, c := range [][2]int{{1, 0}, {1, 1}, {2, 1}, {16, 8}, {63, 1}, {64, 0}} {
			all := whole(some(r, c[0], long), c[1])
			checkAll(t, all, c[0])
			checkAll(t, all, c[0], r.Perm(len(all))[:c[1]]...)
		}
	}
}

// P3.2: noughts are bytes, and no loss.
func TestNoughtsAreNotLost(t *testing.T) {
	for n := 1; n <= 6; n++ {
		for k := 1; k <= n; k++ {
			all := filled(n, 4, func(i, k int) byte { return 0 })
			checkAll(t, all, k)
			got, err := rs.Decode(without(all, upTo(n-k+1)...), k)
			noRows(t, "too few are left", got, err, api.ErrLost)
		}
	}
}

// P3.2: fewer than k that are left, down to none.
func TestDecodeOfTooFew(t *testing.T) {
	r := mixed(12)
	for _, c := range sizes() {
		k, n := c[0], c[0]+c[1]
		all := whole(some(r, k, 3), c[1])
		for _, lost := range []int{c[1] + 1, c[1] + 1 + r.IntN(k), n} {
			got, err := rs.Decode(without(all, r.Perm(n)[:lost]...), k)
			noRows(t, "too few are left", got, err, api.ErrLost)
		}
		got, err := rs.Decode(make([][]byte, n), k)
		noRows(t, "nothing is left", got, err, api.ErrLost)
	}
}

// P3.2: k of which, with how many shares there are, there are no rows: also
// where too much is lost, or lengths differ.
func TestDecodeOfWrongSizes(t *testing.T) {
	for n := range 70 {
		for _, shares := range [][][]byte{
			filled(n, 2, func(i, k int) byte { return 5 }),
			make([][]byte, n),
			filled(n, 70, func(i, k int) byte { return 5 }),
		} {
			for i := range shares {
				if len(shares[i]) == 70 {
					shares[i] = shares[i][:i+1]
				}
			}
			for _, k := range []int{0, -1, -64, n + 1, n + 2, 65, 1 << 32, 1<<32 + 1, math.MaxInt, math.MinInt, math.MinInt + 1, math.MinInt + 64} {
				if n >= 65 || k < 1 || k > n {
					got, err := rs.Decode(shares, k)
					noRows(t, "a wrong k", got, err, api.ErrArg)
				}
			}
			for k := 1; n >= 65 && k <= n; k++ {
				got, err := rs.Decode(shares, k)
				noRows(t, "more than 64 shares", got, err, api.ErrArg)
			}
		}
	}
	for _, k := range []int{0, 1, -1, math.MinInt, math.MaxInt} {
		got, err := rs.Decode(nil, k)
		noRows(t, "nil", got, err, api.ErrArg)
		got, err = rs.Decode(make([][]byte, 1000), k)
		noRows(t, "1000 shares", got, err, api.ErrArg)
	}
}

// P3.2: shares that are left and are not of one length, wherever they stand,
// also where fewer than k are left: ErrArg comes first.
func TestDecodeOfWrongLengths(t *testing.T) {
	for n := 2; n <= 6; n++ {
		for at := range n {
			for other := range n {
				for _, long := range []int{1, 2, 4, 4096, 4097} {
					for k := 1; k <= n; k++ {
						if at == other {
							continue
						}
						shares := filled(n, 3, func(i, k int) byte { return 1 })
						shares[at] = make([]byte, long)
						got, err := rs.Decode(shares, k)
						noRows(t, "one of another length", got, err, api.ErrArg)
						alone := make([][]byte, n) // two alone are left
						alone[at], alone[other] = shares[at], shares[other]
						got, err = rs.Decode(alone, k)
						noRows(t, "two of which one is of another length", got, err, api.ErrArg)
					}
				}
			}
		}
	}
}

// P3.2: shares of more than 4096 bytes are of a wrong length, however many.
func TestDecodeOfTooLongOnes(t *testing.T) {
	for _, c := range [][2]int{{1, 0}, {1, 2}, {2, 1}, {64, 0}, {1, 63}} {
		n := c[0] + c[1]
		got, err := rs.Decode(filled(n, 4097, func(i, k int) byte { return 1 }), c[0])
		noRows(t, "4097 bytes", got, err, api.ErrArg)
		for at := range n {
			shares := make([][]byte, n)
			shares[at] = make([]byte, 4097)
			got, err := rs.Decode(shares, c[0])
			noRows(t, "one alone of 4097 bytes", got, err, api.ErrArg)
		}
	}
}

// P3.3: what Encode makes, Decode takes.
func TestEncodeAndDecode(t *testing.T) {
	r := mixed(13)
	for range 200 {
		k := 1 + r.IntN(64)
		more := r.IntN(65 - k)
		data := some(r, k, 1+r.IntN(30))
		behind, err := rs.Encode(data, more)
		if err != api.OK {
			t.Fatalf("%d data, %d more: %d", k, more, err)
		}
		checkAll(t, append(copied(data), behind...), k, r.Perm(k + more)[:r.IntN(more+1)]...)
	}
}

// R3: what is handed in stays as it was, also the bytes behind a lost share.
func TestArgumentsStay(t *testing.T) {
	r := mixed(14)
	for _, c := range sizes() {
		k, n := c[0], c[0]+c[1]
		all := whole(some(r, k, 5), c[1])
		lost := r.Perm(n)[:c[1]]
		shares := without(all, lost...)
		ahead := copied(shares)
		data, dataAhead := all[:k:n], copied(all)
		rs.Decode(shares, k)
		rs.Decode(shares, k+1)
		rs.Encode(data, c[1])
		rs.Encode(data, 0)
		if !equal(shares, ahead) || !equal(all, dataAhead) {
			t.Fatalf("%d of %d: an argument was turned", k, n)
		}
		for at, i := range lost {
			if at%3 == 2 && !bytes.Equal(shares[i][:5], all[i]) {
				t.Fatalf("%d of %d: the bytes behind the lost share %d were turned", k, n, i)
			}
		}
	}
}

// R3: shares that are one and the same memory are read, and turned by nobody.
func TestSharesOfOneMemory(t *testing.T) {
	share := []byte{3, 5}
	checkDecode(t, [][]byte{share, share, share}, 2)
	over := []byte{1, 2, 3, 4, 5}
	checkDecode(t, [][]byte{nil, over[0:3], over[1:4], over[2:5]}, 2)
	if !bytes.Equal(share, []byte{3, 5}) || !bytes.Equal(over, []byte{1, 2, 3, 4, 5}) {
		t.Errorf("turned: %v, %v", share, over)
	}
}

// checkOwn tells whether an answer is the caller's own: to overwrite it changes
// none of the arguments, and no later answer; to turn a list of it, or to add
// to one, changes no other list.
func checkOwn(t *testing.T, name string, call func() ([][]byte, api.Errno), arguments ...[][]byte) {
	t.Helper()
	var ahead [][][]byte
	for _, a := range arguments {
		ahead = append(ahead, copied(a))
	}
	got, err := call()
	want := copied(got)
	if err != api.OK || len(got) == 0 {
		t.Fatalf("%s: %d of them, %d", name, len(got), err)
	}
	for i := range got {
		grown := append(got[i][:len(got[i]):cap(got[i])], 77, 77, 77)
		grown[len(grown)-1]++
	}
	if !equal(got, want) {
		t.Errorf("%s: to add to a list turned another one", name)
	}
	for i := range got {
		for k := range got[i] {
			got[i][k] ^= 255
		}
		if !equal(got[i+1:], want[i+1:]) {
			t.Errorf("%s: to turn the list %d turned another one", name, i)
		}
	}
	for i, a := range arguments {
		if !equal(a, ahead[i]) {
			t.Errorf("%s: to overwrite the answer turned an argument", name)
		}
	}
	if again, err := call(); err != api.OK || !equal(again, want) {
		t.Errorf("%s: later %v, %d, not %v", name, again, err, want)
	}
}

func TestAnswersAreTheirOwn(t *testing.T) {
	data := some(mixed(15), 3, 4)
	all := whole(data, 2)
	single := [][]byte{{7}}
	for _, lost := range [][]int{{}, {0}, {3}, {0, 1}, {3, 4}, {1, 4}} {
		shares := without(all, lost...)
		checkOwn(t, "Decode", func() ([][]byte, api.Errno) { return rs.Decode(shares, 3) }, shares)
	}
	checkOwn(t, "Decode of one", func() ([][]byte, api.Errno) { return rs.Decode(single, 1) }, single)
	checkOwn(t, "Decode of data alone", func() ([][]byte, api.Errno) { return rs.Decode(data, 3) }, data)
	checkOwn(t, "Encode", func() ([][]byte, api.Errno) { return rs.Encode(data, 2) }, data)
	checkOwn(t, "Encode of one", func() ([][]byte, api.Errno) { return rs.Encode(single, 1) }, single)
	checkOwn(t, "Rows", func() ([][]byte, api.Errno) { return rs.Rows(3, 2) })
	checkOwn(t, "Rows, none more", func() ([][]byte, api.Errno) { return rs.Rows(3, 0) })
}

// R3: to overwrite an argument later on changes no answer.
func TestAnswersStay(t *testing.T) {
	all := whole(some(mixed(16), 3, 4), 2)
	for set := range 1 << 5 {
		lost := members(set, 5)
		if len(lost) > 2 {
			continue
		}
		shares := without(all, lost...)
		got, _ := rs.Decode(shares, 3)
		for i := range shares {
			clear(shares[i])
		}
		if !equal(got, all) {
			t.Errorf("without %v: an answer was turned", lost)
		}
	}
}

// R5: calls at the same time, of the same arguments, answer as one by one.
func TestCallsAtTheSameTime(t *testing.T) {
	all := whole(some(mixed(17), 8, 16), 4)
	shares := without(all, 0, 3, 5, 9)
	answers := make(chan bool)
	for range 4 {
		go func() {
			got, err := rs.Decode(shares, 8)
			behind, _ := rs.Encode(all[:8], 4)
			answers <- err == api.OK && equal(got, all) && equal(behind, all[8:])
		}()
	}
	for range 4 {
		if !<-answers {
			t.Error("an answer at the same time was another one")
		}
	}
}
