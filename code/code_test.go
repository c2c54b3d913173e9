package code_test

import (
	"bytes"
	"math"
	"math/big"
	"math/rand/v2"
	"slices"
	"testing"

	"quartermaster/api"
	"quartermaster/code"
)

func mixed(seed uint64) *rand.Rand { return rand.New(rand.NewPCG(seed, 5)) }

// some are bytes that are mixed up, the same ones in each run.
func some(r *rand.Rand, long int) []byte {
	b := make([]byte, long)
	for i := range b {
		b[i] = byte(r.Uint32())
	}
	return b
}

// power is 2^k.
func power(k uint) *big.Int { return new(big.Int).Lsh(big.NewInt(1), k) }

// laid are the digits of a number by the words of the chapter alone.
func laid(n *big.Int) []byte {
	var l []byte
	rest, base := new(big.Int).Set(n), big.NewInt(128)
	for {
		digit := new(big.Int)
		rest.QuoRem(rest, base, digit)
		if rest.Sign() == 0 {
			return append(l, byte(digit.Int64()))
		}
		l = append(l, byte(digit.Int64()+128))
	}
}

func laidNum(n int) []byte { return laid(big.NewInt(int64(n))) }

// turned is the others' turn of n.
func turned(n int) *big.Int {
	v := big.NewInt(int64(n))
	if n >= 0 {
		return v.Mul(v, big.NewInt(2))
	}
	v.Mul(v, big.NewInt(-2))
	return v.Sub(v, big.NewInt(1))
}

// got is what is told of the digits that b begins with, by the words of the
// chapter alone: a number that is not above top, and how many digits it has.
func got(b []byte, top *big.Int) (*big.Int, int, api.Errno) {
	end := slices.IndexFunc(b, func(x byte) bool { return x < 128 })
	if end < 0 && len(b) < 10 {
		return new(big.Int), 0, api.ErrShort
	}
	if end < 0 || end >= 10 || end > 0 && b[end] == 0 {
		return new(big.Int), 0, api.ErrForm
	}
	n := new(big.Int)
	for k := end; k >= 0; k-- {
		n.Mul(n, big.NewInt(128))
		n.Add(n, big.NewInt(int64(b[k]%128)))
	}
	if n.Cmp(top) > 0 {
		return new(big.Int), 0, api.ErrForm
	}
	return n, end + 1, api.OK
}

func gotNum(b []byte) (int, int, api.Errno) {
	n, long, err := got(b, new(big.Int).Sub(power(63), big.NewInt(1)))
	return int(n.Int64()), long, err
}

func gotInt(b []byte) (int, int, api.Errno) {
	n, long, err := got(b, new(big.Int).Sub(power(64), big.NewInt(1)))
	odd := n.Bit(0) == 1
	if odd { // twice its contrary, less 1
		n.Add(n, big.NewInt(1))
		n.Neg(n)
	}
	n.Quo(n, big.NewInt(2))
	return int(n.Int64()), long, err
}

func gotBytes(b []byte) ([]byte, int, api.Errno) {
	n, long, err := gotNum(b)
	switch {
	case err != api.OK:
		return nil, 0, err
	case n > 4096:
		return nil, 0, api.ErrLong
	case n > len(b)-long:
		return nil, 0, api.ErrShort
	}
	return b[long : long+n], long + n, api.OK
}

// nums are numbers from 0 on, about each edge of digits, and some between.
func nums() []int {
	r := mixed(1)
	l := []int{0, 300, 4095, 4096, 4097, math.MaxInt}
	for k := range 63 {
		l = append(l, 1<<k, 1<<k+1, 1<<k-1)
		for range 20 {
			l = append(l, r.IntN(1<<k))
		}
	}
	return l
}

// ints are such numbers, and their contraries, and what is beside these.
func ints() []int {
	l := []int{math.MinInt, math.MinInt + 1, math.MinInt + 2}
	for _, n := range nums() {
		l = append(l, n, -n, -n-1)
	}
	return l
}

// put is what one has when this was done to a new Out.
func put(do func(o *code.Out)) []byte {
	var o code.Out
	do(&o)
	return o.All()
}

func putNum(t *testing.T, n int) []byte {
	return put(func(o *code.Out) {
		if err := o.Num(n); err != api.OK {
			t.Fatalf("Num(%d): %d", n, err)
		}
	})
}

func putInt(n int) []byte { return put(func(o *code.Out) { o.Int(n) }) }

func putBytes(t *testing.T, b []byte) []byte {
	return put(func(o *code.Out) {
		if err := o.Bytes(b); err != api.OK {
			t.Fatalf("Bytes of %d: %d", len(b), err)
		}
	})
}

// texts are bytes that digits might be: each of up to 2 bytes, many of 3, all
// lengths of full and of empty digits with each last byte, and mixed ones.
func texts() [][]byte {
	l := [][]byte{nil, {}}
	for a := range 256 {
		l = append(l, []byte{byte(a)})
		for b := range 256 {
			l = append(l, []byte{byte(a), byte(b)})
			for _, c := range []byte{0, 1, 127, 128, 129, 255} {
				l = append(l, []byte{byte(a), byte(b), c})
			}
		}
	}
	for long := range 14 {
		for _, ahead := range []byte{128, 129, 254, 255} {
			head := bytes.Repeat([]byte{ahead}, long)
			l = append(l, head)
			for last := range 256 {
				l = append(l, append(bytes.Clone(head), byte(last)), append(bytes.Clone(head), byte(last), 1))
			}
		}
	}
	r := mixed(2)
	for range 20000 {
		b := some(r, int(r.Uint32()%14))
		for i := range b {
			if r.Uint32()%8 > 0 {
				b[i] |= 128 // longer digits
			}
		}
		l = append(l, b)
	}
	return l
}

// P5.1: the chapter's examples, and edges told byte by byte.
func TestPutExamples(t *testing.T) {
	for _, c := range []struct {
		n    int
		want []byte
	}{
		{300, []byte{172, 2}}, {0, []byte{0}}, {1, []byte{1}}, {127, []byte{127}}, {128, []byte{128, 1}}, {255, []byte{255, 1}}, {256, []byte{128, 2}},
		{16383, []byte{255, 127}}, {16384, []byte{128, 128, 1}}, {4096, []byte{128, 32}},
		{math.MaxInt, []byte{255, 255, 255, 255, 255, 255, 255, 255, 127}},
	} {
		if b := putNum(t, c.n); !bytes.Equal(b, c.want) {
			t.Errorf("Num(%d): %v, not %v", c.n, b, c.want)
		}
	}
	for _, c := range []struct {
		n    int
		want []byte
	}{
		{0, []byte{0}}, {-1, []byte{1}}, {1, []byte{2}}, {-2, []byte{3}}, {63, []byte{126}}, {-64, []byte{127}}, {64, []byte{128, 1}}, {-65, []byte{129, 1}},
		{127, []byte{254, 1}}, {-127, []byte{253, 1}}, {128, []byte{128, 2}}, {-128, []byte{255, 1}},
		{math.MaxInt, []byte{254, 255, 255, 255, 255, 255, 255, 255, 255, 1}},
		{math.MinInt, []byte{255, 255, 255, 255, 255, 255, 255, 255, 255, 1}},
		{math.MinInt + 1, []byte{253, 255, 255, 255, 255, 255, 255, 255, 255, 1}},
	} {
		if b := putInt(c.n); !bytes.Equal(b, c.want) {
			t.Errorf("Int(%d): %v, not %v", c.n, b, c.want)
		}
	}
	for _, c := range []struct{ b, want []byte }{{[]byte{7, 8}, []byte{2, 7, 8}}, {nil, []byte{0}}, {[]byte{}, []byte{0}}, {[]byte{0}, []byte{1, 0}}, {[]byte{255}, []byte{1, 255}}} {
		if b := putBytes(t, c.b); !bytes.Equal(b, c.want) {
			t.Errorf("Bytes(%v): %v, not %v", c.b, b, c.want)
		}
	}
}

// P5.1: numbers are put as their digits.
func TestNumPutsDigits(t *testing.T) {
	for _, n := range nums() {
		if b, want := putNum(t, n), laidNum(n); !bytes.Equal(b, want) {
			t.Fatalf("Num(%d): %v, not %v", n, b, want)
		}
	}
}

// P5.1: Int puts the digits of the others' turn, also of the least number.
func TestIntPutsDigitsOfOthersTurn(t *testing.T) {
	for _, n := range ints() {
		if b, want := putInt(n), laid(turned(n)); !bytes.Equal(b, want) {
			t.Fatalf("Int(%d): %v, not %v", n, b, want)
		}
	}
}

// P5.1: bytes are put behind the digits of how many, up to 4096.
func TestBytesPutsHowManyAndThese(t *testing.T) {
	r := mixed(3)
	for _, long := range []int{0, 1, 2, 127, 128, 129, 255, 256, 300, 4000, 4095, 4096} {
		b := some(r, long)
		if have, want := putBytes(t, b), slices.Concat(laidNum(long), b); !bytes.Equal(have, want) {
			t.Fatalf("Bytes of %d: %v, not %v", long, have, want)
		}
	}
}

// P5.1: wrong numbers, and too many bytes, are told, and nothing comes behind.
func TestPutWrong(t *testing.T) {
	for _, ahead := range [][]byte{nil, {7, 8}} {
		var o code.Out
		if ahead != nil {
			o.Bytes(ahead)
		}
		have := o.All()
		for _, n := range []int{-1, -2, -127, -128, -129, -300, -(1 << 32), math.MinInt + 1, math.MinInt} {
			if err := o.Num(n); err != api.ErrArg {
				t.Errorf("Num(%d): %d", n, err)
			}
		}
		for _, long := range []int{4097, 4098, 5000, 1 << 16, 1 << 20} {
			if err := o.Bytes(make([]byte, long)); err != api.ErrLong {
				t.Errorf("Bytes of %d: %d", long, err)
			}
		}
		if b := o.All(); !bytes.Equal(b, have) {
			t.Errorf("behind errors: %v, not %v", b, have)
		}
		if err := o.Num(300); err != api.OK || !bytes.Equal(o.All(), append(have, 172, 2)) {
			t.Errorf("behind errors 300 makes it %v, %d", o.All(), err)
		}
	}
}

// P5.1: a zero Out has nothing, and takes what is put.
func TestZeroOut(t *testing.T) {
	if b := new(code.Out).All(); len(b) != 0 {
		t.Errorf("it has %v", b)
	}
	var o code.Out
	if o.Num(1) != api.OK || o.Bytes(nil) != api.OK || !bytes.Equal(o.All(), []byte{1, 0}) {
		t.Errorf("it has %v", o.All())
	}
}

// P5.1: a nil Out has nothing, and answers ErrArg, whatever is put.
func TestNilOut(t *testing.T) {
	var o *code.Out
	for _, n := range []int{0, 1, 300, -1, math.MaxInt, math.MinInt} {
		o.Int(n)
		if err := o.Num(n); err != api.ErrArg {
			t.Errorf("Num(%d): %d", n, err)
		}
	}
	for _, long := range []int{0, 1, 4096, 4097} {
		if err := o.Bytes(make([]byte, long)); err != api.ErrArg {
			t.Errorf("Bytes of %d: %d", long, err)
		}
	}
	if err := o.Bytes(nil); err != api.ErrArg {
		t.Errorf("Bytes(nil): %d", err)
	}
	if b := o.All(); len(b) != 0 {
		t.Errorf("it has %v", b)
	}
}

// P5.2: the chapter's example, and edges told byte by byte.
func TestGetExamples(t *testing.T) {
	full := bytes.Repeat([]byte{255}, 10) // of which the last ones are cut, or are others
	none := bytes.Repeat([]byte{128}, 10)
	with := func(b []byte, long int, more ...byte) []byte { return slices.Concat(b[:long], more) }
	for _, c := range []struct {
		name    string
		b       []byte
		num     int
		numErr  api.Errno
		turned  int
		turnErr api.Errno
	}{
		{"nothing", nil, 0, api.ErrShort, 0, api.ErrShort},
		{"0", []byte{0}, 0, api.OK, 0, api.OK},
		{"127", []byte{127}, 127, api.OK, -64, api.OK},
		{"a first digit alone", []byte{128}, 0, api.ErrShort, 0, api.ErrShort},
		{"128", []byte{128, 1}, 128, api.OK, 64, api.OK},
		{"300", []byte{172, 2}, 300, api.OK, 150, api.OK},
		{"a last 0", []byte{128, 0}, 0, api.ErrForm, 0, api.ErrForm},
		{"a last 0 behind something", []byte{255, 0}, 0, api.ErrForm, 0, api.ErrForm},
		{"a last 0 as the third", []byte{255, 128, 0}, 0, api.ErrForm, 0, api.ErrForm},
		{"noughts between", []byte{128, 128, 1}, 1 << 14, api.OK, 1 << 13, api.OK},
		{"nine that go on", with(full, 9), 0, api.ErrShort, 0, api.ErrShort},
		{"nine, a last 0", with(full, 8, 0), 0, api.ErrForm, 0, api.ErrForm},
		{"2^63 - 1", with(full, 8, 127), math.MaxInt, api.OK, -(1 << 62), api.OK},
		{"2^63 - 2", with(full, 0, 254, 255, 255, 255, 255, 255, 255, 255, 127), math.MaxInt - 1, api.OK, 1<<62 - 1, api.OK},
		{"ten, a last 0", with(full, 9, 0), 0, api.ErrForm, 0, api.ErrForm},
		{"2^63", with(none, 9, 1), 0, api.ErrForm, 1 << 62, api.OK},
		{"2^64 - 1", with(full, 9, 1), 0, api.ErrForm, math.MinInt, api.OK},
		{"2^64 - 2", with(full, 0, 254, 255, 255, 255, 255, 255, 255, 255, 255, 1), 0, api.ErrForm, math.MaxInt, api.OK},
		{"2^64", with(none, 9, 2), 0, api.ErrForm, 0, api.ErrForm},
		{"2^64 and a half", with(none, 9, 3), 0, api.ErrForm, 0, api.ErrForm},
		{"2^70 - 1", with(full, 9, 127), 0, api.ErrForm, 0, api.ErrForm},
		{"ten that go on", with(full, 10), 0, api.ErrForm, 0, api.ErrForm},
		{"ten noughts that go on", with(none, 10), 0, api.ErrForm, 0, api.ErrForm},
		{"eleven", with(none, 10, 1), 0, api.ErrForm, 0, api.ErrForm},
		{"eleven, a last 0", with(none, 10, 0), 0, api.ErrForm, 0, api.ErrForm},
		{"eleven, the tenth 1", with(none, 9, 129, 1), 0, api.ErrForm, 0, api.ErrForm},
		{"twenty that go on", with(full, 10, full...), 0, api.ErrForm, 0, api.ErrForm},
	} {
		if n, err := code.NewIn(c.b).Num(); n != c.num || err != c.numErr {
			t.Errorf("%s: Num() = %d, %d, not %d, %d", c.name, n, err, c.num, c.numErr)
		}
		if n, err := code.NewIn(c.b).Int(); n != c.turned || err != c.turnErr {
			t.Errorf("%s: Int() = %d, %d, not %d, %d", c.name, n, err, c.turned, c.turnErr)
		}
	}
}

// P5.2: Num, Int and Bytes of all kinds of bytes tell what the chapter says; with
// an error nothing is gone through, else just what was told.
func TestGetOfAllKindsOfBytes(t *testing.T) {
	for _, b := range texts() {
		in := code.NewIn(b)
		n, err := in.Num()
		if want, long, wantErr := gotNum(b); n != want || err != wantErr || in.Left() != len(b)-long {
			t.Fatalf("%v: Num() = %d, %d, %d left, not %d, %d, %d", b, n, err, in.Left(), want, wantErr, len(b)-long)
		}
		in = code.NewIn(b)
		n, err = in.Int()
		if want, long, wantErr := gotInt(b); n != want || err != wantErr || in.Left() != len(b)-long {
			t.Fatalf("%v: Int() = %d, %d, %d left, not %d, %d, %d", b, n, err, in.Left(), want, wantErr, len(b)-long)
		}
		in = code.NewIn(b)
		l, err := in.Bytes()
		if want, long, wantErr := gotBytes(b); !bytes.Equal(l, want) || err != wantErr || in.Left() != len(b)-long {
			t.Fatalf("%v: Bytes() = %v, %d, %d left, not %v, %d, %d", b, l, err, in.Left(), want, wantErr, len(b)-long)
		}
	}
}

// P5.2: of Bytes first Num's error is told, then ErrLong, then ErrShort.
func TestGetBytes(t *testing.T) {
	r := mixed(4)
	for _, c := range []struct {
		name string
		head []byte // digits
		long int    // of what is behind
		want int    // of what is told
		err  api.Errno
	}{
		{"none", []byte{0}, 0, 0, api.OK},
		{"none of some", []byte{0}, 3, 0, api.OK},
		{"all", []byte{3}, 3, 3, api.OK},
		{"some", []byte{3}, 9, 3, api.OK},
		{"one is missing", []byte{3}, 2, 0, api.ErrShort},
		{"all are missing", []byte{1}, 0, 0, api.ErrShort},
		{"127", []byte{127}, 127, 127, api.OK},
		{"128", []byte{128, 1}, 200, 128, api.OK},
		{"4095", []byte{255, 31}, 4096, 4095, api.OK},
		{"4096", []byte{128, 32}, 4096, 4096, api.OK},
		{"4096 of more", []byte{128, 32}, 5000, 4096, api.OK},
		{"4096, one is missing", []byte{128, 32}, 4095, 0, api.ErrShort},
		{"4097", []byte{129, 32}, 4097, 0, api.ErrLong},
		{"4097, and all are missing", []byte{129, 32}, 0, 0, api.ErrLong},
		{"2^32 and 1", laidNum(1<<32 + 1), 9, 0, api.ErrLong},
		{"2^63 - 1", laidNum(math.MaxInt), 9, 0, api.ErrLong},
		{"2^63", laid(power(63)), 9, 0, api.ErrForm},
		{"2^64", laid(power(64)), 9, 0, api.ErrForm},
		{"a last 0", []byte{131, 0}, 9, 0, api.ErrForm},
		{"no digit", nil, 0, 0, api.ErrShort},
		{"no last digit", []byte{131}, 0, 0, api.ErrShort},
		{"too many digits", bytes.Repeat([]byte{128}, 10), 0, 0, api.ErrForm},
	} {
		behind := some(r, c.long)
		b := slices.Concat(c.head, behind)
		in := code.NewIn(b)
		l, err := in.Bytes()
		if err != c.err || !bytes.Equal(l, behind[:c.want]) {
			t.Errorf("%s: %d bytes, %d, not %d, %d", c.name, len(l), err, c.want, c.err)
		}
		left := len(b)
		if c.err == api.OK {
			left -= len(c.head) + c.want
		}
		if in.Left() != left {
			t.Errorf("%s: %d are left, not %d", c.name, in.Left(), left)
		}
	}
}

// P5.2: with an error nothing is gone through, so the next call stands where
// the one with the error stood.
func TestGetGoesOnBehindErrors(t *testing.T) {
	in := code.NewIn([]byte{9, 5, 1, 2, 128})
	if n, err := in.Num(); n != 9 || err != api.OK || in.Left() != 4 {
		t.Fatalf("Num() = %d, %d, %d left", n, err, in.Left())
	}
	for range 3 {
		if l, err := in.Bytes(); len(l) != 0 || err != api.ErrShort || in.Left() != 4 {
			t.Fatalf("Bytes() = %v, %d, %d left", l, err, in.Left())
		}
	}
	for _, want := range []int{-3, -1, 1} {
		if n, err := in.Int(); n != want || err != api.OK {
			t.Fatalf("Int() = %d, %d, not %d", n, err, want)
		}
	}
	for range 3 {
		if n, err := in.Num(); n != 0 || err != api.ErrShort || in.Left() != 1 {
			t.Fatalf("Num() = %d, %d, %d left", n, err, in.Left())
		}
		if n, err := in.Int(); n != 0 || err != api.ErrShort || in.Left() != 1 {
			t.Fatalf("Int() = %d, %d, %d left", n, err, in.Left())
		}
	}
	in = code.NewIn(slices.Concat(laid(power(63)), []byte{129, 0}))
	if n, err := in.Num(); n != 0 || err != api.ErrForm || in.Left() != 12 {
		t.Fatalf("Num() = %d, %d, %d left", n, err, in.Left())
	}
	if n, err := in.Int(); n != 1<<62 || err != api.OK || in.Left() != 2 {
		t.Fatalf("Int() = %d, %d, %d left", n, err, in.Left())
	}
	if l, err := in.Bytes(); len(l) != 0 || err != api.ErrForm || in.Left() != 2 {
		t.Fatalf("Bytes() = %v, %d, %d left", l, err, in.Left())
	}
}

// P5.2: a nil In, a zero one, and one of no bytes have nothing.
func TestInOfNothing(t *testing.T) {
	for name, in := range map[string]*code.In{"nil": nil, "zero": {}, "of nil": code.NewIn(nil), "of none": code.NewIn([]byte{})} {
		for range 2 {
			if n, err := in.Num(); n != 0 || err != api.ErrShort {
				t.Errorf("%s: Num() = %d, %d", name, n, err)
			}
			if n, err := in.Int(); n != 0 || err != api.ErrShort {
				t.Errorf("%s: Int() = %d, %d", name, n, err)
			}
			if l, err := in.Bytes(); len(l) != 0 || err != api.ErrShort {
				t.Errorf("%s: Bytes() = %v, %d", name, l, err)
			}
			if n := in.Left(); n != 0 {
				t.Errorf("%s: %d are left", name, n)
			}
		}
	}
}

// P5.2: what is left is all that was not gone through, from all on.
func TestLeft(t *testing.T) {
	b := slices.Concat([]byte{172, 2, 1}, []byte{2, 7, 8}, []byte{5})
	in := code.NewIn(b)
	for _, step := range []struct {
		do   func()
		left int
	}{
		{func() {}, 7}, {func() { in.Num() }, 5}, {func() { in.Int() }, 4}, {func() { in.Bytes() }, 1}, {func() { in.Bytes() }, 1}, {func() { in.Left() }, 1}, {func() { in.Num() }, 0}, {func() { in.Num() }, 0},
	} {
		step.do()
		if in.Left() != step.left {
			t.Fatalf("%d are left, not %d", in.Left(), step.left)
		}
	}
}

// A part is what is put at once: a Num, an Int, or Bytes.
type part struct {
	kind, n int
	b       []byte
}

func someParts(r *rand.Rand, many int) []part {
	l := make([]part, many)
	edges := ints()
	for i := range l {
		l[i].kind = r.IntN(3)
		n := edges[r.IntN(len(edges))]
		switch {
		case l[i].kind == 2:
			l[i].b = some(r, []int{0, 1, 2, 127, 128, 300, 4096}[r.IntN(7)])
		case l[i].kind == 0 && n < 0:
			l[i].n = -(n + 1)
		default:
			l[i].n = n
		}
	}
	return l
}

// lay puts a part, and tells the bytes that ought to come behind.
func (p part) lay(o *code.Out) (api.Errno, []byte) {
	switch p.kind {
	case 0:
		return o.Num(p.n), laidNum(p.n)
	case 1:
		o.Int(p.n)
		return api.OK, laid(turned(p.n))
	}
	return o.Bytes(p.b), slices.Concat(laidNum(len(p.b)), p.b)
}

// next is the part of a kind that is got next.
func next(in *code.In, kind int) (part, api.Errno) {
	p := part{kind: kind}
	var err api.Errno
	switch kind {
	case 0:
		p.n, err = in.Num()
	case 1:
		p.n, err = in.Int()
	default:
		p.b, err = in.Bytes()
	}
	return p, err
}

// P5.1, P5.3: what is put comes behind what was; it is got in that order, and
// nothing is left.
func TestWhatWasPutIsGot(t *testing.T) {
	r := mixed(5)
	for many := range 200 {
		parts := someParts(r, many)
		var o code.Out
		var want []byte
		for _, p := range parts {
			err, more := p.lay(&o)
			want = append(want, more...)
			if err != api.OK || !bytes.Equal(o.All(), want) {
				t.Fatalf("%v made it other bytes, or %d", p, err)
			}
		}
		in := code.NewIn(o.All())
		for i, p := range parts {
			have, err := next(in, p.kind)
			if err != api.OK || have.n != p.n || !bytes.Equal(have.b, p.b) {
				t.Fatalf("part %d: %v, %d, not %v", i, have, err, p)
			}
		}
		if in.Left() != 0 {
			t.Fatalf("%d are left", in.Left())
		}
	}
}

// P5.3: what is got would be put as the same bytes: so of all kinds of bytes,
// one behind the other, till one has an error.
func TestWhatIsGotWouldBePutTheSame(t *testing.T) {
	r := mixed(6)
	for i, b := range texts() {
		in := code.NewIn(b)
		var o code.Out
		for at := 0; ; at++ {
			p, err := next(in, (i+at+r.IntN(2))%3)
			if err != api.OK {
				break
			}
			if err, _ := p.lay(&o); err != api.OK {
				t.Fatalf("%v: %v was got, and is not put: %d", b, p, err)
			}
		}
		if through := b[:len(b)-in.Left()]; !bytes.Equal(o.All(), through) {
			t.Fatalf("%v: %v was got of %v", b, o.All(), through)
		}
	}
}

// P5.3: each number has one text of digits alone, each text one number: among
// all texts of up to two bytes, and those of three whose last one is below 3.
func TestEachInOneWayOnly(t *testing.T) {
	numbers, turns := map[int]int{}, map[int]int{}
	see := func(b ...byte) {
		in := code.NewIn(b)
		if n, err := in.Num(); err == api.OK && in.Left() == 0 {
			numbers[n]++
		}
		in = code.NewIn(b)
		if n, err := in.Int(); err == api.OK && in.Left() == 0 {
			turns[n]++
		}
	}
	for a := range 256 {
		see(byte(a))
		for b := range 256 {
			see(byte(a), byte(b))
			for c := range 3 {
				see(byte(a), byte(b), byte(c))
			}
		}
	}
	for n := range 3 << 14 {
		if numbers[n] != 1 || turns[n/2] != 1 || turns[-n/2-n%2] != 1 {
			t.Fatalf("%d has %d texts, as others' turn %d and %d", n, numbers[n], turns[n/2], turns[-n/2-n%2])
		}
	}
	if len(numbers) != 3<<14 || len(turns) != 3<<14 {
		t.Errorf("%d and %d numbers, not %d", len(numbers), len(turns), 3<<14)
	}
}

// R3: what is put, or got of, stays as it was, and later changes of it change
// nothing of what was put, or is got.
func TestWhatIsHandedInStays(t *testing.T) {
	memory := []byte{3, 7, 8, 9, 77, 77}
	ahead := slices.Clone(memory)
	b := memory[:4]
	var o code.Out
	o.Bytes(b)
	in := code.NewIn(b)
	o.Num(300)
	l, err := in.Bytes()
	if err != api.OK || !bytes.Equal(memory, ahead) {
		t.Fatalf("it became %v, %d", memory, err)
	}
	in = code.NewIn(b)
	for i := range memory {
		memory[i] = 1
	}
	if !bytes.Equal(o.All(), []byte{4, 3, 7, 8, 9, 172, 2}) {
		t.Errorf("what was put became %v", o.All())
	}
	if again, err := in.Bytes(); err != api.OK || !bytes.Equal(again, []byte{7, 8, 9}) || !bytes.Equal(l, again) {
		t.Errorf("what is got became %v, %v, %d", l, again, err)
	}
}

// R3: what is answered is the caller's own.
func TestWhatIsAnsweredIsTheCallersOwn(t *testing.T) {
	var o code.Out
	for want := []byte{}; len(want) < 40; {
		o.Num(len(want) + 1)
		want = append(want, byte(len(want)+1))
		one, two := o.All(), o.All()
		for i := range one {
			one[i] = 99
		}
		one = append(one, 99)
		o.Num(77)
		want = append(want, 77)
		if !bytes.Equal(two, want[:len(want)-1]) || !bytes.Equal(o.All(), want) {
			t.Fatalf("%v and %v, not %v", two, o.All(), want)
		}
	}
	in := code.NewIn([]byte{2, 7, 8, 2, 9, 10})
	one, _ := in.Bytes()
	one[0], one[1] = 99, 99
	one = append(one, 99, 99, 99)
	if two, err := in.Bytes(); err != api.OK || !bytes.Equal(two, []byte{9, 10}) || !bytes.Equal(one, []byte{99, 99, 99, 99, 99}) {
		t.Errorf("%v and %v, %d", one, two, err)
	}
}

// R5: answers hang on nothing that was asked before: each Out, and each In,
// has its own, and a copied In goes on by itself.
func TestNothingIsShared(t *testing.T) {
	var one, two code.Out
	one.Num(1)
	two.Num(2)
	one.Num(3)
	if !bytes.Equal(one.All(), []byte{1, 3}) || !bytes.Equal(two.All(), []byte{2}) {
		t.Errorf("%v and %v", one.All(), two.All())
	}
	b := []byte{1, 2, 3}
	in, other := code.NewIn(b), code.NewIn(b)
	in.Num()
	copied := *in
	in.Num()
	for i, c := range []struct {
		in         *code.In
		left, want int
	}{{in, 1, 3}, {other, 3, 1}, {&copied, 2, 2}} {
		if left := c.in.Left(); left != c.left {
			t.Errorf("%d: %d are left, not %d", i, left, c.left)
		}
		if n, err := c.in.Num(); n != c.want || err != api.OK {
			t.Errorf("%d: Num() = %d, %d, not %d", i, n, err, c.want)
		}
	}
}
