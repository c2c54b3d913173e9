package batch_test

import (
	"bytes"
	"encoding/binary"
	"fmt"
	"math/rand/v2"
	"slices"
	"strings"
	"testing"

	"quartermaster/api"
	"quartermaster/batch"
	"quartermaster/tree"
)

// mixed is what mixes things up, the same way in each run.
func mixed(seed uint64) *rand.Rand { return rand.New(rand.NewPCG(seed, 14)) }

// digits are those of a number, by the library: they are the same.
func digits(n int) []byte { return binary.AppendUvarint(nil, uint64(n)) }

// counted are bytes behind how many they are.
func counted(s string) []byte { return append(digits(len(s)), s...) }

// encoded is what P14.1 says of changes, by its words alone.
func encoded(l []api.Change) ([]byte, api.Errno) {
	if len(l) > 4096 {
		return nil, api.ErrLong
	}
	b := digits(len(l))
	for _, c := range l {
		if len(c.Key) > 4096 || !c.Gone && len(c.Value) > 4096 {
			return nil, api.ErrLong
		}
		b = append(b, counted(c.Key)...)
		if c.Gone {
			b = append(b, 0)
		} else {
			b = append(append(b, 1), counted(c.Value)...)
		}
	}
	return b, api.OK
}

// reader goes through bytes, and keeps the first that is wrong.
type reader struct {
	b   []byte
	err api.Errno
}

func (r *reader) wrong(err api.Errno) {
	if r.err == api.OK {
		r.err = err
	}
	r.b = nil
}

// num is a number by the words of chapter 5. With ten digits it is 2^63 or more, or has
// a nought at its end, or too many digits.
func (r *reader) num() int {
	n := 0
	for i, x := range r.b {
		if i == 9 || x == 0 && i > 0 {
			r.wrong(api.ErrForm)
			return 0
		}
		n += int(x%128) << (7 * i)
		if x < 128 {
			r.b = r.b[i+1:]
			return n
		}
	}
	r.wrong(api.ErrShort)
	return 0
}

func (r *reader) text() string {
	n := r.num()
	if n > 4096 {
		r.wrong(api.ErrLong)
	} else if n > len(r.b) {
		r.wrong(api.ErrShort)
	}
	if r.err != api.OK {
		return ""
	}
	s := string(r.b[:n])
	r.b = r.b[n:]
	return s
}

// change is the next one; behind what is wrong all is nothing.
func (r *reader) change() api.Change {
	c := api.Change{Key: r.text()}
	switch r.num() {
	case 0:
		c.Gone = true
	case 1:
		c.Value = r.text()
	default:
		r.wrong(api.ErrForm)
	}
	return c
}

// decoded is what P14.2 says of bytes, by its words alone.
func decoded(b []byte) ([]api.Change, api.Errno) {
	r := &reader{b: b}
	many := r.num()
	if many > 4096 {
		r.wrong(api.ErrLong)
	}
	var l []api.Change
	for i := 0; i < many && r.err == api.OK; i++ {
		l = append(l, r.change())
	}
	if len(r.b) > 0 {
		r.wrong(api.ErrForm)
	}
	if r.err != api.OK {
		return nil, r.err
	}
	return l, api.OK
}

// pair is a key and what it has; plain is what a tree should have, by rising keys.
type pair struct{ k, v string }

type plain []pair

// applied is P14.3 for pairs: what a change was about goes, and comes anew.
func (p plain) applied(l []api.Change) plain {
	p = slices.Clone(p)
	for _, c := range l {
		p = slices.DeleteFunc(p, func(x pair) bool { return x.k == c.Key })
		if !c.Gone {
			p = append(p, pair{c.Key, c.Value})
		}
	}
	slices.SortFunc(p, func(a, b pair) int { return strings.Compare(a.k, b.k) })
	return p
}

// changes are those that put each pair.
func (p plain) changes() []api.Change {
	var l []api.Change
	for _, x := range p {
		l = append(l, api.Change{Key: x.k, Value: x.v})
	}
	return l
}

// filled is what P14.4 says of Fill, by its words alone.
func filled(b []byte) (plain, api.Errno) {
	l, err := decoded(b)
	if err != api.OK {
		return nil, err
	}
	var p plain
	for i, c := range l {
		if c.Gone || i > 0 && strings.Compare(c.Key, l[i-1].Key) <= 0 {
			return nil, api.ErrForm
		}
		p = append(p, pair{c.Key, c.Value})
	}
	return p, api.OK
}

// pairsOf are all that a tree has, as it hands them on.
func pairsOf(x *tree.Tree[string]) plain {
	var p plain
	for k, v := range x.From("") {
		p = append(p, pair{k, v})
	}
	return p
}

// grown is a tree of pairs, put in no order.
func grown(r *rand.Rand, p plain) *tree.Tree[string] {
	var x tree.Tree[string]
	for _, i := range r.Perm(len(p)) {
		x.Put(p[i].k, p[i].v)
	}
	return &x
}

// same holds all that a tree has against what it should have.
func same(t *testing.T, x *tree.Tree[string], p plain) {
	t.Helper()
	if got := pairsOf(x); !slices.Equal(got, p) || x.Len() != len(p) {
		t.Fatalf("a tree of Len() = %d has %.300q, it should have %.300q", x.Len(), got, p)
	}
	for _, k := range p {
		if v, ok := x.Get(k.k); v != k.v || !ok {
			t.Fatalf("Get(%.40q) = %.40q, %v, it should be %.40q", k.k, v, ok, k.v)
		}
	}
}

// shown are changes as a test tells them: not too many, and none that is long.
func shown(l []api.Change) string {
	var s strings.Builder
	for _, c := range l[:min(len(l), 12)] {
		fmt.Fprintf(&s, "{%.20q %.20q %v}", c.Key, c.Value, c.Gone)
	}
	return fmt.Sprintf("%d changes %s", len(l), s.String())
}

// bare are changes as they are decoded again: with Gone no Value.
func bare(l []api.Change) []api.Change {
	l = slices.Clone(l)
	for i, c := range l {
		if c.Gone {
			l[i].Value = ""
		}
	}
	return l
}

// drawnText is a short text mostly, of few letters, so that two are often the same;
// some are no UTF-8, and some are at the edges of one and two digits, and of the limit.
func drawnText(r *rand.Rand) string {
	letters := "ab\x00\xff\xc3\x80"
	long := r.IntN(4)
	switch r.IntN(400) {
	case 0:
		long = 4094 + r.IntN(3)
	case 1, 2, 3, 4:
		long = 126 + r.IntN(4)
	}
	b := make([]byte, long)
	for i := range b {
		b[i] = letters[r.IntN(len(letters))]
	}
	return string(b)
}

// drawn are so many changes; those that are Gone have a Value now and then all the same.
func drawn(r *rand.Rand, many int) []api.Change {
	var l []api.Change
	for range many {
		c := api.Change{Key: drawnText(r), Value: drawnText(r), Gone: r.IntN(3) == 0}
		if c.Gone && r.IntN(2) == 0 {
			c.Value = ""
		}
		l = append(l, c)
	}
	return l
}

// drawnPairs are up to so many pairs by rising keys.
func drawnPairs(r *rand.Rand, many int) plain {
	l := drawn(r, many)
	for i := range l {
		l[i].Gone = false
	}
	return plain{}.applied(l)
}

// encode is what Encode makes of changes that may be, held against what it should.
func encode(t *testing.T, l []api.Change) []byte {
	t.Helper()
	handed := slices.Clone(l)
	b, err := batch.Encode(l)
	want, code := encoded(l)
	if err != code || !bytes.Equal(b, want) {
		t.Fatalf("Encode(%s) = %.300v, %d, it should be %.300v, %d", shown(l), b, err, want, code)
	}
	if !slices.Equal(l, handed) {
		t.Fatalf("Encode turned what it was handed into %s", shown(l))
	}
	return b
}

// hold holds Decode and Fill of bytes against what they should be; and that what is
// decoded is encoded as the same bytes (P14.5).
func hold(t *testing.T, b []byte) api.Errno {
	t.Helper()
	handed := bytes.Clone(b)
	l, err := batch.Decode(b)
	want, code := decoded(b)
	if err != code || !slices.Equal(l, want) {
		t.Fatalf("Decode(%.300v) = %s, %d, it should be %s, %d", b, shown(l), err, shown(want), code)
	}
	x, not := batch.Fill(b)
	p, code := filled(b)
	if not != code || (x != nil) != (code == api.OK) {
		t.Fatalf("Fill(%.300v): %d and a tree: %v, it should be %d", b, not, x != nil, code)
	}
	same(t, x, p)
	if !bytes.Equal(b, handed) {
		t.Fatalf("what was handed in became %.300v", b)
	}
	if err == api.OK && !bytes.Equal(encode(t, l), b) {
		t.Fatalf("%.300v is decoded and encoded as other bytes", b)
	}
	return err
}
