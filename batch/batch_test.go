package batch_test

import (
	"bytes"
	"fmt"
	"math"
	"slices"
	"strings"
	"testing"

	"quartermaster/api"
	"quartermaster/batch"
)

// long is a text of so many bytes.
func long(n int) string { return strings.Repeat("x", n) }

// joined are bytes behind one another.
func joined(l ...[]byte) []byte { return slices.Concat(l...) }

// rows are changes that may be, and the bytes that the chapter's words ask of them.
func rows() map[string]struct {
	l []api.Change
	b []byte
} {
	type row = struct {
		l []api.Change
		b []byte
	}
	return map[string]row{
		"the example":           {[]api.Change{{Key: "a", Value: "b"}, {Key: "c", Gone: true}}, []byte{2, 1, 97, 1, 1, 98, 1, 99, 0}},
		"nil":                   {nil, []byte{0}},
		"no changes":            {[]api.Change{}, []byte{0}},
		"a zero change":         {[]api.Change{{}}, []byte{1, 0, 1, 0}},
		"no key":                {[]api.Change{{Value: "v"}}, []byte{1, 0, 1, 1, 118}},
		"no key, and it goes":   {[]api.Change{{Gone: true}}, []byte{1, 0, 0}},
		"no value":              {[]api.Change{{Key: "k"}}, []byte{1, 1, 107, 1, 0}},
		"it goes, with a value": {[]api.Change{{Key: "k", Value: "v", Gone: true}}, []byte{1, 1, 107, 0}},
		"one key twice":         {[]api.Change{{Key: "k", Value: "v"}, {Key: "k", Value: "w"}}, []byte{2, 1, 107, 1, 1, 118, 1, 107, 1, 1, 119}},
		"the same twice":        {[]api.Change{{Key: "k", Gone: true}, {Key: "k", Gone: true}}, []byte{2, 1, 107, 0, 1, 107, 0}},
		"it goes, and comes":    {[]api.Change{{Key: "k", Gone: true}, {Key: "k", Value: "w"}}, []byte{2, 1, 107, 0, 1, 107, 1, 1, 119}},
		"keys that fall":        {[]api.Change{{Key: "k"}, {Key: "b"}}, []byte{2, 1, 107, 1, 0, 1, 98, 1, 0}},
		"no UTF-8":              {[]api.Change{{Key: "\xff\xfe", Value: "\xc3("}, {Key: "\x80", Gone: true}}, []byte{2, 2, 255, 254, 1, 2, 195, 40, 1, 128, 0}},
		"noughts":               {[]api.Change{{Key: "\x00", Value: "\x00\x00"}}, []byte{1, 1, 0, 1, 2, 0, 0}},
	}
}

// P14.1, P14.2: the chapter's example and the edges, byte by byte, both ways.
func TestRows(t *testing.T) {
	for name, row := range rows() {
		t.Run(name, func(t *testing.T) {
			if b := encode(t, row.l); !bytes.Equal(b, row.b) {
				t.Errorf("Encode(%s) = %v, it should be %v", shown(row.l), b, row.b)
			}
			l, err := batch.Decode(row.b)
			if err != api.OK || !slices.Equal(l, bare(row.l)) {
				t.Errorf("Decode(%v) = %s, %d, it should be %s", row.b, shown(l), err, shown(bare(row.l)))
			}
			hold(t, row.b)
		})
	}
}

// P14.1: how many changes there may be, with one digit and with two.
func TestManyChanges(t *testing.T) {
	for _, c := range []struct {
		n   int
		err api.Errno
	}{{1, api.OK}, {127, api.OK}, {128, api.OK}, {129, api.OK}, {4095, api.OK}, {4096, api.OK}, {4097, api.ErrLong}, {9000, api.ErrLong}} {
		for _, one := range []api.Change{{}, {Gone: true}, {Key: "k", Value: "v"}} {
			l := slices.Repeat([]api.Change{one}, c.n)
			b, err := batch.Encode(l)
			if err != c.err || (err != api.OK && b != nil) {
				t.Fatalf("Encode of %d changes: %d, it should be %d", c.n, err, c.err)
			}
			if err == api.OK {
				hold(t, encode(t, l))
			}
		}
	}
}

// P14.1: how long a key and a value may be, with one digit and with two, in the first
// change, in one in the midst, and in the last; the Value of one that is Gone is not
// looked at.
func TestLongTexts(t *testing.T) {
	for _, n := range []int{0, 1, 127, 128, 4095, 4096, 4097, 4098, 16384, 100000} {
		want := api.OK
		if n > 4096 {
			want = api.ErrLong
		}
		for at := range 5 {
			one := map[string]struct {
				c   api.Change
				err api.Errno
			}{
				"key":                       {api.Change{Key: long(n), Value: "v"}, want},
				"value":                     {api.Change{Key: "k", Value: long(n)}, want},
				"both":                      {api.Change{Key: long(n), Value: long(n)}, want},
				"key of one that goes":      {api.Change{Key: long(n), Gone: true}, want},
				"value of one that goes":    {api.Change{Key: "k", Value: long(n), Gone: true}, api.OK},
				"both of one that goes":     {api.Change{Key: long(n), Value: long(n), Gone: true}, want},
				"key alone":                 {api.Change{Key: long(n)}, want},
				"value alone":               {api.Change{Value: long(n)}, want},
				"value alone, and it goes":  {api.Change{Value: long(n), Gone: true}, api.OK},
				"value ahead of a long key": {api.Change{Key: long(4096), Value: long(n)}, want},
			}
			for name, c := range one {
				l := drawn(mixed(uint64(at)), 5)
				l[at] = c.c
				b, err := batch.Encode(l)
				if err != c.err || (err != api.OK && b != nil) {
					t.Fatalf("%s, %d bytes, in change %d: Encode = %d bytes, %d, it should be %d", name, n, at, len(b), err, c.err)
				}
				if err == api.OK {
					hold(t, encode(t, l))
				}
			}
		}
	}
}

// P14.1, P14.5: the most and longest that there may be, and one more byte of the last.
func TestGreatest(t *testing.T) {
	l := make([]api.Change, 4096)
	for i := range l {
		l[i] = api.Change{Key: fmt.Sprintf("%04d", i) + long(4092), Value: long(4096)}
	}
	b := encode(t, l)
	if len(b) != 2+4096*(2+4096+1+2+4096) {
		t.Errorf("Encode makes %d bytes", len(b))
	}
	if got, err := batch.Decode(b); err != api.OK || !slices.Equal(got, l) {
		t.Errorf("Decode of %d bytes: %d changes, %d", len(b), len(got), err)
	}
	l[4095].Value += "x"
	if b, err := batch.Encode(l); err != api.ErrLong || b != nil {
		t.Errorf("with one byte more: %d bytes, %d", len(b), err)
	}
}

// P14.2: bytes of which each has one error, or two, and which one is told; also a
// number at each of its edges.
func TestWrongBytes(t *testing.T) {
	top := []byte{255, 255, 255, 255, 255, 255, 255, 255, 127} // 2^63 - 1
	above := []byte{128, 128, 128, 128, 128, 128, 128, 128, 128, 1}
	most, more := digits(4096), digits(4097)
	key := []byte{1, 1, 97} // of one change
	for _, c := range []struct {
		b   []byte
		err api.Errno
	}{
		{nil, api.ErrShort}, {[]byte{}, api.ErrShort}, {[]byte{0}, api.OK}, {[]byte{0, 0}, api.ErrForm}, {[]byte{0, 200}, api.ErrForm},
		{[]byte{128}, api.ErrShort}, {[]byte{128, 0}, api.ErrForm}, {[]byte{129, 0}, api.ErrForm}, {[]byte{128, 128, 0}, api.ErrForm},
		{bytes.Repeat([]byte{128}, 9), api.ErrShort}, {bytes.Repeat([]byte{128}, 10), api.ErrForm}, {bytes.Repeat([]byte{255}, 30), api.ErrForm},
		{above, api.ErrForm}, {top, api.ErrLong}, {more, api.ErrLong}, {most, api.ErrShort}, {digits(math.MaxInt), api.ErrLong},
		// How many there are is looked at ahead of all that follows.
		{joined(more, []byte{128, 0}), api.ErrLong}, {joined(more, []byte{0, 2}), api.ErrLong}, {joined(more, more), api.ErrLong},
		{joined(most, []byte{128, 0}), api.ErrForm}, {joined(most, []byte{0, 2}), api.ErrForm}, {joined(most, more), api.ErrLong},
		{joined(more, bytes.Repeat([]byte{0, 0}, 4097)), api.ErrLong}, {joined(most, bytes.Repeat([]byte{0, 0}, 4096)), api.OK},
		{joined(most, bytes.Repeat([]byte{0, 0}, 4095)), api.ErrShort}, {joined(most, bytes.Repeat([]byte{0, 0}, 4097)), api.ErrForm},
		// A key.
		{[]byte{1}, api.ErrShort}, {[]byte{1, 1}, api.ErrShort}, {[]byte{1, 2, 97}, api.ErrShort}, {[]byte{1, 128}, api.ErrShort}, {[]byte{1, 128, 0}, api.ErrForm},
		{[]byte{1, 129, 0, 97}, api.ErrForm}, {joined([]byte{1}, most), api.ErrShort}, {joined([]byte{1}, more), api.ErrLong}, {joined([]byte{1}, top), api.ErrLong}, {joined([]byte{1}, above), api.ErrForm},
		{joined([]byte{1}, most, []byte(long(4096))), api.ErrShort}, {joined([]byte{1}, most, []byte(long(4096)), []byte{0}), api.OK},
		{joined([]byte{1}, more, []byte(long(4097)), []byte{0}), api.ErrLong}, {joined([]byte{1}, bytes.Repeat([]byte{128}, 10)), api.ErrForm},
		// The number behind it.
		{key, api.ErrShort}, {joined(key, []byte{0}), api.OK}, {joined(key, []byte{2}), api.ErrForm}, {joined(key, []byte{3}), api.ErrForm}, {joined(key, []byte{127}), api.ErrForm},
		{joined(key, []byte{128}), api.ErrShort}, {joined(key, []byte{129}), api.ErrShort}, {joined(key, []byte{128, 0}), api.ErrForm}, {joined(key, []byte{129, 0, 1, 98}), api.ErrForm},
		{joined(key, []byte{128, 1}), api.ErrForm}, {joined(key, more), api.ErrForm}, {joined(key, top), api.ErrForm}, {joined(key, above), api.ErrForm},
		{joined(key, []byte{2, 1, 98}), api.ErrForm}, {joined(key, bytes.Repeat([]byte{128}, 9)), api.ErrShort}, {joined(key, bytes.Repeat([]byte{128}, 10)), api.ErrForm},
		// A value.
		{joined(key, []byte{1}), api.ErrShort}, {joined(key, []byte{1, 0}), api.OK}, {joined(key, []byte{1, 1}), api.ErrShort}, {joined(key, []byte{1, 2, 98}), api.ErrShort},
		{joined(key, []byte{1, 128, 0}), api.ErrForm}, {joined(key, []byte{1, 128}), api.ErrShort}, {joined(key, []byte{1}, most), api.ErrShort}, {joined(key, []byte{1}, more), api.ErrLong},
		{joined(key, []byte{1}, most, []byte(long(4096))), api.OK}, {joined(key, []byte{1}, more, []byte(long(4097))), api.ErrLong}, {joined(key, []byte{1}, top), api.ErrLong}, {joined(key, []byte{1}, above), api.ErrForm},
		// What is left behind all.
		{joined(key, []byte{0, 0}), api.ErrForm}, {joined(key, []byte{0, 1, 98}), api.ErrForm}, {joined(key, []byte{1, 1, 98, 0}), api.ErrForm}, {joined(key, []byte{0, 128}), api.ErrForm}, {joined(key, []byte{0}, more), api.ErrForm},
		// The first of two: what comes behind it is not looked at.
		{[]byte{2, 1, 97, 2, 1}, api.ErrForm}, {[]byte{2, 1, 97, 1, 5, 98}, api.ErrShort}, {joined([]byte{2, 1, 97, 2}, more), api.ErrForm},
		{joined([]byte{2, 0, 1}, more, []byte{0, 2}), api.ErrLong}, {joined([]byte{2, 0, 0}, more, []byte{128, 0}), api.ErrLong}, {[]byte{1, 2, 97}, api.ErrShort}, {[]byte{9, 0, 0, 128, 0}, api.ErrForm},
	} {
		l, err := batch.Decode(c.b)
		if err != c.err || (err != api.OK && l != nil) {
			t.Errorf("Decode(%.60v) = %d changes, %d, it should be %d", c.b, len(l), err, c.err)
		}
		if x, err := batch.Fill(c.b); c.err != api.OK && (err != c.err || x != nil) {
			t.Errorf("Fill(%.60v): %d and a tree: %v, it should be %d", c.b, err, x != nil, c.err)
		}
		hold(t, c.b)
	}
}

// part is a number in what Encode makes, and the bytes that belong to it.
type part struct {
	kind  string // "many", "long" or "said"
	n     int
	after string
}

// partsOf are those of changes, in order.
func partsOf(l []api.Change) []part {
	parts := []part{{"many", len(l), ""}}
	for _, c := range l {
		parts = append(parts, part{"long", len(c.Key), c.Key})
		if c.Gone {
			parts = append(parts, part{"said", 0, ""})
		} else {
			parts = append(parts, part{"said", 1, ""}, part{"long", len(c.Value), c.Value})
		}
	}
	return parts
}

// fault is what may be wrong with a number: its digits, and what is told of it.
type fault struct {
	b   []byte
	err api.Errno
}

// faults are those of a part: a nought at the end, too many digits, too great a number
// for all, or for this kind.
func faults(p part) []fault {
	d := digits(p.n)
	d[len(d)-1] += 128
	l := []fault{
		{append(d, 0), api.ErrForm},
		{bytes.Repeat([]byte{255}, 10), api.ErrForm},
		{[]byte{255, 255, 255, 255, 255, 255, 255, 255, 255, 1}, api.ErrForm},
	}
	if p.kind == "said" {
		return append(l, fault{[]byte{2}, api.ErrForm}, fault{digits(128), api.ErrForm}, fault{digits(4097), api.ErrForm})
	}
	return append(l, fault{digits(4097), api.ErrLong}, fault{digits(math.MaxInt), api.ErrLong})
}

// laid are the bytes of parts, of which some have other digits.
func laid(parts []part, instead map[int]fault) []byte {
	var b []byte
	for i, p := range parts {
		d := digits(p.n)
		if f, ok := instead[i]; ok {
			d = f.b
		}
		b = joined(b, d, []byte(p.after))
	}
	return b
}

// P14.2: each fault at each number, alone; with each fault at each later one; with the
// bytes cut short behind it, and with a byte more: the first is told.
func TestFirstOfTwo(t *testing.T) {
	parts := partsOf([]api.Change{{Key: "a", Value: "b"}, {Key: long(130), Gone: true}, {}, {Key: "\xff", Value: long(128)}})
	told := func(err api.Errno, b []byte) {
		t.Helper()
		if l, got := batch.Decode(b); got != err || l != nil {
			t.Fatalf("Decode(%v) = %d changes, %d, it should be %d", b, len(l), got, err)
		}
		hold(t, b)
	}
	for i := range parts {
		for _, first := range faults(parts[i]) {
			whole := laid(parts, map[int]fault{i: first})
			end := len(laid(parts[:i], nil)) + len(first.b)
			for cut := end; cut <= len(whole); cut++ {
				told(first.err, whole[:cut])
			}
			told(first.err, append(whole, 0))
			for j := i + 1; j < len(parts); j++ {
				for _, second := range faults(parts[j]) {
					told(first.err, laid(parts, map[int]fault{i: first, j: second}))
				}
			}
			told(api.ErrShort, whole[:len(laid(parts[:i], nil))])
		}
	}
}

// P14.2, P14.5: what Encode made, cut at each place, with each byte behind it, with
// each byte changed into each other one, left out, and put twice.
func TestChangedBytes(t *testing.T) {
	r := mixed(2)
	lists := [][]api.Change{{{Key: long(130), Value: long(129)}, {Key: long(128), Gone: true}}}
	for _, row := range rows() {
		lists = append(lists, row.l)
	}
	for n := range 12 {
		lists = append(lists, drawn(r, n))
	}
	for _, l := range lists {
		b := encode(t, l)
		if len(b) > 1000 {
			continue
		}
		for at := range b {
			if err := hold(t, b[:at]); err != api.ErrShort {
				t.Fatalf("of %v the first %d bytes: %d, it should be %d", b, at, err, api.ErrShort)
			}
			for x := range 256 {
				changed := bytes.Clone(b)
				changed[at] = byte(x)
				hold(t, changed)
			}
			hold(t, slices.Delete(bytes.Clone(b), at, at+1))
			hold(t, slices.Insert(bytes.Clone(b), at, b[at]))
		}
		for x := range 256 {
			if err := hold(t, append(bytes.Clone(b), byte(x))); err != api.ErrForm {
				t.Fatalf("of %v and %d behind it: %d, it should be %d", b, x, err, api.ErrForm)
			}
		}
	}
}

// P14.2: all rows of up to two bytes, all of up to seven of those bytes that matter,
// and longer ones, drawn.
func TestDrawnBytes(t *testing.T) {
	hold(t, nil)
	for x := range 256 {
		hold(t, []byte{byte(x)})
		for y := range 256 {
			hold(t, []byte{byte(x), byte(y)})
		}
	}
	few := []byte{0, 1, 2, 97, 128, 255}
	many := 1
	for n := 1; n <= 7; n++ {
		many *= len(few)
		for i := range many {
			b := make([]byte, n)
			for k, rest := 0, i; k < n; k, rest = k+1, rest/len(few) {
				b[k] = few[rest%len(few)]
			}
			hold(t, b)
		}
	}
	r := mixed(3)
	ended := map[api.Errno]int{}
	for range 200000 {
		b := make([]byte, 8+r.IntN(20))
		for k := range b {
			b[k] = few[r.IntN(3)]
			if r.IntN(8) == 0 {
				b[k] = byte(r.Uint32())
			}
		}
		b[0] = byte(r.IntN(6))
		ended[hold(t, b)]++
	}
	for _, err := range []api.Errno{api.OK, api.ErrLong, api.ErrShort, api.ErrForm} {
		if ended[err] < 10 {
			t.Errorf("%d of the rows ended with %d: the test looks at too few", ended[err], err)
		}
	}
}

// P14.5: what was encoded is decoded: drawn changes, few and many, with Gone no Value.
func TestThereAndBack(t *testing.T) {
	r := mixed(5)
	for i := range 600 {
		many := r.IntN(12)
		if i%50 == 0 {
			many = r.IntN(4097)
		}
		l := drawn(r, many)
		b := encode(t, l)
		got, err := batch.Decode(b)
		if err != api.OK || !slices.Equal(got, bare(l)) {
			t.Fatalf("of %d changes %d come back, %d", len(l), len(got), err)
		}
		if again := encode(t, got); !bytes.Equal(again, b) {
			t.Fatal("what is decoded is encoded as other bytes")
		}
		hold(t, b)
	}
}

// R3: what is handed out is the caller's own, and what was handed in may be changed.
func TestOwn(t *testing.T) {
	l := []api.Change{{Key: "a", Value: "b"}, {Key: "c", Gone: true}}
	want := []byte{2, 1, 97, 1, 1, 98, 1, 99, 0}
	b, _ := batch.Encode(l)
	l[0].Key, l[1].Gone = "z", false
	other, _ := batch.Encode([]api.Change{{Key: "a", Value: "b"}, {Key: "c", Gone: true}})
	other[1] = 77
	other = append(other, 9)
	if !bytes.Equal(b, want) {
		t.Errorf("what Encode made became %v", b)
	}
	got, _ := batch.Decode(b)
	again, _ := batch.Decode(b)
	again[0] = api.Change{Key: "q"}
	clear(b)
	if !slices.Equal(got, []api.Change{{Key: "a", Value: "b"}, {Key: "c", Gone: true}}) {
		t.Errorf("what Decode made became %s", shown(got))
	}
}

// R5: each answer hangs on what was asked alone, also behind errors.
func TestAgain(t *testing.T) {
	right := []byte{2, 1, 97, 1, 1, 98, 1, 99, 0}
	for i := range 50 {
		hold(t, right)
		hold(t, right[:i%9])
		hold(t, append(bytes.Clone(right), byte(i)))
		encode(t, []api.Change{{Key: long(4096 + i%2)}})
		encode(t, slices.Repeat([]api.Change{{Key: "a"}}, 4096+i%2))
	}
}
