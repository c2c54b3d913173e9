package batch_test

import (
	"bytes"
	"fmt"
	"slices"
	"testing"

	"quartermaster/api"
	"quartermaster/batch"
	"quartermaster/tree"
)

// numbered are so many pairs by rising keys.
func numbered(n int) plain {
	var p plain
	for i := range n {
		p = append(p, pair{fmt.Sprintf("%05d", i), fmt.Sprint("value ", i)})
	}
	return p
}

// apply does changes with a tree, holds all that it has behind them against what it
// should have, and answers that.
func apply(t *testing.T, x *tree.Tree[string], p plain, l []api.Change) plain {
	t.Helper()
	handed := slices.Clone(l)
	batch.Apply(x, l)
	p = p.applied(l)
	same(t, x, p)
	if !slices.Equal(l, handed) {
		t.Fatalf("Apply turned what it was handed into %s", shown(l))
	}
	return p
}

// P14.3: changes one by one, each with what it leaves.
func TestApply(t *testing.T) {
	for _, c := range []struct {
		l    []api.Change
		want plain
	}{
		{nil, nil},
		{[]api.Change{}, nil},
		{[]api.Change{{}}, plain{{"", ""}}},
		{[]api.Change{{Gone: true}}, nil},
		{[]api.Change{{Value: "v"}, {Key: "k"}}, plain{{"", "v"}, {"k", ""}}},
		{[]api.Change{{Key: "k", Value: "v"}, {Key: "k", Value: "w"}}, plain{{"k", "w"}}},
		{[]api.Change{{Key: "k", Value: "v"}, {Key: "k", Gone: true}}, nil},
		{[]api.Change{{Key: "k", Gone: true}, {Key: "k", Value: "v"}}, plain{{"k", "v"}}},
		{[]api.Change{{Key: "k", Value: "v"}, {Key: "k", Gone: true}, {Key: "k", Value: "w"}}, plain{{"k", "w"}}},
		{[]api.Change{{Key: "k", Value: "v", Gone: true}}, nil},
		{[]api.Change{{Key: "k", Value: "v"}, {Key: "k", Value: "w", Gone: true}, {Key: "k", Gone: true}}, nil},
		{[]api.Change{{Key: "\xff", Value: "\xc3"}, {Key: "b", Value: "2"}, {Key: "a", Value: "1"}, {Key: "\xff\x00"}}, plain{{"a", "1"}, {"b", "2"}, {"\xff", "\xc3"}, {"\xff\x00", ""}}},
		{[]api.Change{{Key: long(9000), Value: long(10000)}}, plain{{long(9000), long(10000)}}},
	} {
		var x tree.Tree[string]
		batch.Apply(&x, c.l)
		same(t, &x, c.want)
		var y tree.Tree[string]
		apply(t, &y, nil, c.l)
	}
}

// P14.3: drawn lists, one behind the other, held against a plain list of pairs.
func TestApplyInARow(t *testing.T) {
	r := mixed(6)
	for range 40 {
		p := drawnPairs(r, r.IntN(60))
		x := grown(r, p)
		for range 30 {
			p = apply(t, x, p, drawn(r, r.IntN(9)))
		}
	}
}

// P14.3: more changes than Encode takes, and lists that let all go again.
func TestApplyMany(t *testing.T) {
	var x tree.Tree[string]
	all := numbered(5000)
	l := all.changes()
	batch.Apply(&x, l)
	same(t, &x, all)
	for i := range l {
		l[i].Gone = i%1000 != 0
		l[i].Value += "!"
	}
	batch.Apply(&x, l)
	var left plain
	for i := 0; i < 5000; i += 1000 {
		left = append(left, pair{all[i].k, all[i].v + "!"})
	}
	same(t, &x, left)
}

// P14.3, P14.4, R1: a nil tree takes nothing and has nothing, also with Dump.
func TestNilTree(t *testing.T) {
	for _, l := range [][]api.Change{nil, {{}}, {{Key: "k", Value: "v"}, {Key: "k", Gone: true}, {Gone: true}}} {
		batch.Apply(nil, l)
	}
	if b, err := batch.Dump(nil); err != api.OK || !bytes.Equal(b, []byte{0}) {
		t.Errorf("Dump(nil) = %v, %d, it should be a nought", b, err)
	}
	if b, err := batch.Dump(&tree.Tree[string]{}); err != api.OK || !bytes.Equal(b, []byte{0}) {
		t.Errorf("Dump of a zero tree = %v, %d, it should be a nought", b, err)
	}
}

// dump is what Dump makes of a tree, held against what it should be; the tree stays,
// and of what was dumped one of the same is filled (P14.5).
func dump(t *testing.T, x *tree.Tree[string], p plain) []byte {
	t.Helper()
	b, err := batch.Dump(x)
	want, code := encoded(p.changes())
	if err != code || !bytes.Equal(b, want) {
		t.Fatalf("Dump of %d pairs = %.200v, %d, it should be %.200v, %d", len(p), b, err, want, code)
	}
	same(t, x, p)
	if err != api.OK {
		return nil
	}
	y, err := batch.Fill(b)
	if err != api.OK || y == nil {
		t.Fatalf("Fill of what was dumped: %d", err)
	}
	same(t, y, p)
	if again, err := batch.Dump(y); err != api.OK || !bytes.Equal(again, b) {
		t.Fatalf("what was filled is dumped as %.200v, %d", again, err)
	}
	return b
}

// P14.4: of no, one and two keys, byte by byte, however they came.
func TestDump(t *testing.T) {
	var x tree.Tree[string]
	for _, c := range []struct {
		put  pair
		want []byte
	}{
		{pair{"c", "3"}, []byte{1, 1, 99, 1, 1, 51}},
		{pair{"a", ""}, []byte{2, 1, 97, 1, 0, 1, 99, 1, 1, 51}},
		{pair{"b", "22"}, []byte{3, 1, 97, 1, 0, 1, 98, 1, 2, 50, 50, 1, 99, 1, 1, 51}},
		{pair{"", "\xff"}, []byte{4, 0, 1, 1, 255, 1, 97, 1, 0, 1, 98, 1, 2, 50, 50, 1, 99, 1, 1, 51}},
		{pair{"c", ""}, []byte{4, 0, 1, 1, 255, 1, 97, 1, 0, 1, 98, 1, 2, 50, 50, 1, 99, 1, 0}},
	} {
		x.Put(c.put.k, c.put.v)
		if b, err := batch.Dump(&x); err != api.OK || !bytes.Equal(b, c.want) {
			t.Errorf("behind Put(%q): Dump = %v, %d, it should be %v", c.put, b, err, c.want)
		}
		dump(t, &x, pairsOf(&x))
	}
	for _, k := range []string{"", "a", "b", "c"} {
		x.Del(k)
	}
	if b := dump(t, &x, nil); !bytes.Equal(b, []byte{0}) {
		t.Errorf("when all is let go: Dump = %v", b)
	}
}

// P14.4, P14.5: of many keys, up to as many as there may be, and of one more.
func TestDumpMany(t *testing.T) {
	r := mixed(7)
	for _, n := range []int{0, 1, 2, 7, 8, 9, 127, 128, 1000, 4095, 4096} {
		p := numbered(n)
		if dump(t, grown(r, p), p) == nil {
			t.Errorf("%d keys are not dumped", n)
		}
	}
	for _, n := range []int{4097, 5000} {
		if b, err := batch.Dump(grown(r, numbered(n))); err != api.ErrLong || b != nil {
			t.Errorf("Dump of %d keys: %d bytes, %d, it should be %d", n, len(b), err, api.ErrLong)
		}
	}
}

// P14.4: a key, or a value, that is as long as it may be, and longer.
func TestDumpLong(t *testing.T) {
	r := mixed(8)
	for _, n := range []int{127, 128, 4095, 4096, 4097, 20000} {
		for _, one := range []pair{{long(n), "v"}, {"k", long(n)}, {long(n), long(n)}} {
			p := plain{}.applied(append(numbered(20).changes(), api.Change{Key: one.k, Value: one.v}))
			if b := dump(t, grown(r, p), p); (b != nil) != (n <= 4096) {
				t.Errorf("of %d bytes in a key or a value %d are dumped", n, len(b))
			}
		}
	}
}

// P14.4, P14.5: drawn trees.
func TestDumpDrawn(t *testing.T) {
	r := mixed(9)
	for range 500 {
		p := drawnPairs(r, r.IntN(80))
		dump(t, grown(r, p), p)
	}
}

// refuses looks whether Fill tells an error of bytes, and has no tree.
func refuses(t *testing.T, b []byte, want api.Errno) {
	t.Helper()
	if x, err := batch.Fill(b); err != want || x != nil {
		t.Errorf("Fill(%.60v): %d and a tree: %v, it should be %d and none", b, err, x != nil, want)
	}
}

// P14.4: Fill of no changes is a tree that has nothing, and goes on; each is its own.
func TestFillOfNothing(t *testing.T) {
	x, err := batch.Fill([]byte{0})
	y, not := batch.Fill([]byte{0})
	if x == nil || y == nil || err != api.OK || not != api.OK {
		t.Fatalf("Fill of no changes: %d, %d and trees: %v, %v", err, not, x != nil, y != nil)
	}
	x.Put("k", "v")
	same(t, x, plain{{"k", "v"}})
	same(t, y, nil)
	refuses(t, nil, api.ErrShort)
	refuses(t, []byte{}, api.ErrShort)
}

// P14.4: one that is Gone, one key twice, and keys that fall, at each place.
func TestFillOfOther(t *testing.T) {
	for _, n := range []int{1, 2, 3, 40, 200} {
		l := numbered(n).changes()
		for at := range l {
			gone := slices.Clone(l)
			gone[at].Gone = true
			refuses(t, encode(t, gone), api.ErrForm)
			twice := slices.Insert(slices.Clone(l), at, l[at])
			refuses(t, encode(t, twice), api.ErrForm)
			twice[at].Value = "other"
			refuses(t, encode(t, twice), api.ErrForm)
			refuses(t, encode(t, append(slices.Clone(l), l[at])), api.ErrForm)
			if at > 0 {
				fall := slices.Clone(l)
				fall[at-1], fall[at] = fall[at], fall[at-1]
				refuses(t, encode(t, fall), api.ErrForm)
			}
		}
		b := encode(t, l)
		x, err := batch.Fill(b)
		if err != api.OK {
			t.Fatalf("Fill of %d rising keys: %d", n, err)
		}
		same(t, x, numbered(n))
	}
}

// P14.4: keys are held against each other by their bytes, the shorter one first.
func TestFillOrder(t *testing.T) {
	keys := []string{"", "\x00", "\x00\x00", "\x01", "A", "B", "a", "a\x00", "aa", "b", "e\u0301", "\x7f", "\x80", "\xc3", "é", "日本", "\xff", "\xff\xff", long(4096)}
	slices.Sort(keys)
	for i, first := range keys {
		for j, second := range keys {
			b := encode(t, []api.Change{{Key: first, Value: "1"}, {Key: second, Value: "2"}})
			if i >= j {
				refuses(t, b, api.ErrForm)
				continue
			}
			x, err := batch.Fill(b)
			if err != api.OK {
				t.Fatalf("Fill of %.20q and %.20q: %d", first, second, err)
			}
			same(t, x, plain{{first, "1"}, {second, "2"}})
		}
	}
}

// P14.4: Decode's error comes ahead of a change that is Gone, and of keys that fall.
func TestFillTellsDecodesFirst(t *testing.T) {
	refuses(t, []byte{2, 1, 97, 0}, api.ErrShort)
	refuses(t, []byte{2, 1, 97, 0, 1}, api.ErrShort)
	refuses(t, joined([]byte{2, 1, 97, 0}, digits(4097)), api.ErrLong)
	refuses(t, joined([]byte{2, 1, 97, 0, 1, 98, 1}, digits(4097)), api.ErrLong)
	refuses(t, []byte{3, 1, 98, 1, 0, 1, 97, 1, 0, 1}, api.ErrShort)
	refuses(t, []byte{3, 1, 98, 1, 0, 1, 98, 1, 0, 1, 99, 1, 5}, api.ErrShort)
	refuses(t, digits(4097), api.ErrLong)
	refuses(t, []byte{1, 1, 97, 0}, api.ErrForm)
	refuses(t, []byte{1, 1, 97, 0, 0}, api.ErrForm)
}

// R3, P14.4: a tree that was filled is its own: neither the bytes nor another one turns
// it; and what was dumped stays, whatever becomes of the tree.
func TestFilledStays(t *testing.T) {
	p := numbered(50)
	b := encode(t, p.changes())
	x, _ := batch.Fill(b)
	y, _ := batch.Fill(b)
	dumped, _ := batch.Dump(x)
	want := bytes.Clone(b)
	clear(b)
	for _, k := range p[:40] {
		x.Del(k.k)
		x.Put("other "+k.k, "")
	}
	same(t, y, p)
	if !bytes.Equal(dumped, want) {
		t.Errorf("what was dumped became %v", dumped)
	}
	again, _ := batch.Dump(y)
	clear(again)
	same(t, y, p)
}
