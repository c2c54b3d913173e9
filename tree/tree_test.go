package tree_test

import (
	"fmt"
	"math"
	"math/rand/v2"
	"slices"
	"strings"
	"testing"

	"quartermaster/tree"
)

// pair is a key and what it has.
type pair[V any] struct {
	k string
	v V
}

// plain is what a tree should be: a list of pairs by rising keys, gone through from
// its beginning each time.
type plain[V any] struct{ l []pair[V] }

func (p *plain[V]) at(k string) (int, bool) {
	for i, x := range p.l {
		if x.k >= k {
			return i, x.k == k
		}
	}
	return len(p.l), false
}

func (p *plain[V]) put(k string, v V) bool {
	i, here := p.at(k)
	if !here {
		p.l = slices.Insert(p.l, i, pair[V]{k, v})
	}
	p.l[i].v = v
	return !here
}

func (p *plain[V]) get(k string) (V, bool) {
	var v V
	i, here := p.at(k)
	if here {
		v = p.l[i].v
	}
	return v, here
}

func (p *plain[V]) del(k string) bool {
	i, here := p.at(k)
	if here {
		p.l = slices.Delete(p.l, i, i+1)
	}
	return here
}

func (p *plain[V]) from(k string) []pair[V] {
	i, _ := p.at(k)
	return slices.Clone(p.l[i:])
}

// gone is all that a going from a key on hands on.
func gone[V any](t *tree.Tree[V], k string) []pair[V] {
	var l []pair[V]
	for k, v := range t.From(k) {
		l = append(l, pair[V]{k, v})
	}
	return l
}

// same holds a whole tree against what it should be.
func same[V comparable](t *testing.T, x *tree.Tree[V], p *plain[V]) {
	t.Helper()
	if x.Len() != len(p.l) {
		t.Fatalf("Len() = %d, it should be %d", x.Len(), len(p.l))
	}
	if got := gone(x, ""); !slices.Equal(got, p.l) {
		t.Fatalf("From(\"\") hands on %v, it should %v", got, p.l)
	}
}

// both does a Put with a tree and with what it should be, and holds the answers
// against each other; likewise drop a Del, and look a Get.
func both[V comparable](t *testing.T, x *tree.Tree[V], p *plain[V], k string, v V) {
	t.Helper()
	if got, want := x.Put(k, v), p.put(k, v); got != want {
		t.Fatalf("Put(%q, %v) = %v, it should be %v", k, v, got, want)
	}
	look(t, x, p, k)
}

func drop[V comparable](t *testing.T, x *tree.Tree[V], p *plain[V], k string) {
	t.Helper()
	if got, want := x.Del(k), p.del(k); got != want {
		t.Fatalf("Del(%q) = %v, it should be %v", k, got, want)
	}
	look(t, x, p, k)
}

func look[V comparable](t *testing.T, x *tree.Tree[V], p *plain[V], k string) {
	t.Helper()
	got, ok := x.Get(k)
	want, is := p.get(k)
	if got != want || ok != is || x.Len() != len(p.l) {
		t.Fatalf("Get(%q) = %v, %v with Len() = %d, it should be %v, %v with %d", k, got, ok, x.Len(), want, is, len(p.l))
	}
}

// key is the key of a number: in the order of numbers.
func key(i int) string { return fmt.Sprintf("%05d", i) }

// filled is a tree of n keys, and what it should be: of each second number from 1 on,
// each having ten times as many.
func filled(n int) (*tree.Tree[int], *plain[int]) {
	var x tree.Tree[int]
	var p plain[int]
	for i := range n {
		x.Put(key(2*i+1), 20*i+10)
		p.put(key(2*i+1), 20*i+10)
	}
	return &x, &p
}

// orders are the numbers below n, rising, falling and in no order.
func orders(n int, r *rand.Rand) map[string][]int {
	rising := make([]int, n)
	for i := range rising {
		rising[i] = i
	}
	falling := slices.Clone(rising)
	slices.Reverse(falling)
	return map[string][]int{"rising": rising, "falling": falling, "mixed": r.Perm(n), "mixed otherwise": r.Perm(n)}
}

// sizes are numbers of keys at the edges of one node, and of trees of more.
func sizes() []int { return []int{0, 1, 2, 3, 6, 7, 8, 9, 15, 31, 32, 63, 64, 127, 300} }

// oddKeys are keys of many kinds: none at all, such that begin with one another, such
// as are no UTF-8, long ones.
func oddKeys() []string {
	long := strings.Repeat("long ", 2000)
	return []string{"", "\x00", "\x00\x00", "\x00\x01", "\x01", "a", "a\x00", "aa", "aaa", "ab", "b", "B", "A", "é", "e\u0301", "日本", "\xff", "\xff\xff", "\xfe\xff",
		"\xc3", "\xc3\x28", "\x80", "\x7f", " ", "  ", "10", "9", "-1", long, long + "a", long[1:], long[:len(long)-1], "\xff" + long}
}

// P13.1: a zero Tree has nothing, and can be used as it is.
func TestZeroTree(t *testing.T) {
	var x tree.Tree[int]
	for _, k := range append(oddKeys(), "k") {
		if v, ok := x.Get(k); v != 0 || ok {
			t.Fatalf("Get(%q) = %v, %v of a zero Tree", k, v, ok)
		}
		if x.Del(k) || x.Len() != 0 || x.Deep() != 0 || len(gone(&x, k)) > 0 {
			t.Fatalf("a zero Tree has something from %q on", k)
		}
	}
	if !x.Put("k", 5) {
		t.Error("Put answers that a key was there ahead in a zero Tree")
	}
	if v, ok := x.Get("k"); v != 5 || !ok || x.Len() != 1 || x.Deep() != 1 {
		t.Errorf("behind its first Put: Get = %v, %v, Len() = %d, Deep() = %d", v, ok, x.Len(), x.Deep())
	}
}

// P13.1, R1: a nil Tree has nothing; its Put does nothing.
func TestNilTree(t *testing.T) {
	var x *tree.Tree[string]
	for _, k := range oddKeys() {
		if x.Put(k, "v") {
			t.Fatalf("Put(%q) = true of a nil Tree", k)
		}
		if v, ok := x.Get(k); v != "" || ok {
			t.Fatalf("Get(%q) = %q, %v of a nil Tree", k, v, ok)
		}
		if x.Del(k) || x.Len() != 0 || x.Deep() != 0 || len(gone(x, k)) > 0 {
			t.Fatalf("a nil Tree has something from %q on", k)
		}
	}
}

// P1, R1: a going that is handed nothing to tell hands on nothing.
func TestFromToNothing(t *testing.T) {
	x, p := filled(20)
	var none *tree.Tree[int]
	none.From("")(nil)
	x.From("")(nil)
	x.From(key(7))(nil)
	same(t, x, p)
}

// P13.1: Put tells whether its key was not there ahead ("was it not there ahead?"), Del
// whether its key was: a key that is new, one that is there, and one that was let go.
func TestPutAnswers(t *testing.T) {
	for _, k := range oddKeys() {
		var x tree.Tree[int]
		first, second := x.Put(k, 0), x.Put(k, 1)
		gone, again := x.Del(k), x.Del(k)
		behind := x.Put(k, 2)
		if !first || second || !gone || again || !behind {
			t.Fatalf("%.20q put, put again, let go, let go again, put: %v %v %v %v %v, it should be true false true false true",
				k, first, second, gone, again, behind)
		}
	}
}

// P13.1: what Put answers in trees of each depth, at each key that is there (in a root,
// in a node between, in one without children) and at each one that isn't, also where
// nodes are split for it; of the same value, too.
func TestPutAnswersInDepth(t *testing.T) {
	for deep, n := range []int{0, 7, 30, 120, 500, 2000} {
		x, _ := filled(n)
		if x.Deep() < deep {
			t.Fatalf("Deep() = %d of %d keys, the test should see %d", x.Deep(), n, deep)
		}
		for i := range 2*n + 2 {
			there := i%2 == 1 && i < 2*n
			if got := x.Put(key(i), i); got == there {
				t.Fatalf("of %d keys Put(%q) = %v, it was there: %v", n, key(i), got, there)
			}
			if x.Put(key(i), i) || x.Put(key(i), -i) {
				t.Fatalf("of %d keys Put(%q) = true where it was there", n, key(i))
			}
			if !x.Del(key(i)) || !x.Put(key(i), i) {
				t.Fatalf("of %d keys Put(%q) = false where it was let go", n, key(i))
			}
		}
	}
}

// P13.1: of one key, of 3, of 7, of 8 and of more, put in each order: each call's
// answer, of keys that are there, and of keys between them.
func TestPutGetDel(t *testing.T) {
	r := rand.New(rand.NewPCG(13, 1))
	for _, n := range sizes() {
		for name, order := range orders(n, r) {
			t.Run(fmt.Sprint(n, " ", name), func(t *testing.T) {
				var x tree.Tree[int]
				var p plain[int]
				for _, i := range order {
					both(t, &x, &p, key(2*i+1), i)
				}
				same(t, &x, &p)
				for i := range 2*n + 2 {
					look(t, &x, &p, key(i))
				}
				for i := 0; i < 2*n+2; i += 2 {
					drop(t, &x, &p, key(i))
				}
				same(t, &x, &p)
				for _, i := range order {
					drop(t, &x, &p, key(2*i+1))
					drop(t, &x, &p, key(2*i+1))
				}
				same(t, &x, &p)
			})
		}
	}
}

// P13.1: a key that is put again has what was put last, and is there once.
func TestPutAgain(t *testing.T) {
	for _, n := range sizes() {
		x, p := filled(n)
		for i := range n {
			both(t, x, p, key(2*i+1), -i)
			both(t, x, p, key(2*i+1), 0)
			both(t, x, p, key(2*i+1), 0)
		}
		same(t, x, p)
		for range 30 {
			both(t, x, p, key(1), n)
		}
		same(t, x, p)
	}
}

// P13.1: the last key that is let go leaves a tree that has nothing, and goes on.
func TestLastLetGo(t *testing.T) {
	for _, n := range sizes() {
		x, p := filled(n)
		for round := range 3 {
			for i := range n {
				drop(t, x, p, key(2*i+1))
			}
			same(t, x, p)
			if x.Deep() != 0 {
				t.Fatalf("Deep() = %d of a tree of which all is let go", x.Deep())
			}
			for i := range n {
				both(t, x, p, key(2*i+1), round)
			}
			same(t, x, p)
		}
	}
}

// P13.1: keys that are odd, each also with each other one there alone.
func TestOddKeys(t *testing.T) {
	keys := oddKeys()
	var x tree.Tree[int]
	var p plain[int]
	for i, k := range keys {
		both(t, &x, &p, k, i)
		same(t, &x, &p)
	}
	for _, k := range keys {
		if got, want := gone(&x, k), p.from(k); !slices.Equal(got, want) {
			t.Fatalf("From(%.20q) hands on %d, it should %d", k, len(got), len(want))
		}
	}
	for i, k := range keys {
		drop(t, &x, &p, k)
		same(t, &x, &p)
		var one tree.Tree[int]
		one.Put(k, i)
		for j, other := range keys {
			if v, ok := one.Get(other); ok != (i == j) || (ok && v != i) {
				t.Fatalf("of %.20q alone Get(%.20q) = %v, %v", k, other, v, ok)
			}
		}
	}
}

// P13.1: long rows of calls, of few keys and of many, with more put or more let go by
// turns, and again and again the same.
func TestLongRows(t *testing.T) {
	r := rand.New(rand.NewPCG(13, 2))
	for _, many := range []int{1, 2, 8, 9, 20, 70, 400, 3000} {
		var x tree.Tree[int]
		var p plain[int]
		for step := range 6000 {
			k := key(r.IntN(many))
			if step%7 == 0 && len(p.l) > 0 {
				k = p.l[r.IntN(len(p.l))].k
			}
			for range 1 + r.IntN(2) {
				switch n := r.IntN(10); {
				case n == 0:
					look(t, &x, &p, k)
				case (n < 7) == (step/1500%2 == 0):
					both(t, &x, &p, k, step)
				default:
					drop(t, &x, &p, k)
				}
			}
			if step%97 == 0 {
				same(t, &x, &p)
			}
		}
		same(t, &x, &p)
	}
}

// P13.1: things of more than one type: texts, structs, lists, functions, pointers,
// floats, interfaces, and such as have no size.
func TestTypes(t *testing.T) {
	values(t, "a", "b", "")
	values(t, pair[int]{"k", 1}, pair[int]{}, pair[int]{"", -1})
	values(t, struct{}{}, struct{}{})
	values(t, 1.5, math.Inf(1), 0)
	values(t, new(int), nil, new(int))
	values[any](t, 7, nil, "seven", []int{7}[0])
	values[error](t, nil, fmt.Errorf("one"), nil)
	values(t, true, false)

	var lists tree.Tree[[]byte]
	lists.Put("a", []byte("one"))
	lists.Put("b", nil)
	if b, ok := lists.Get("a"); string(b) != "one" || !ok {
		t.Errorf("Get(a) = %q, %v of a tree of lists", b, ok)
	}
	if b, ok := lists.Get("b"); b != nil || !ok {
		t.Errorf("Get(b) = %q, %v of a tree of lists", b, ok)
	}
	if b, ok := lists.Get("c"); b != nil || ok {
		t.Errorf("Get(c) = %q, %v of a tree of lists", b, ok)
	}
	var calls tree.Tree[func() int]
	calls.Put("a", func() int { return 9 })
	if f, ok := calls.Get("a"); !ok || f() != 9 {
		t.Error("Get(a) isn't what was put of a tree of functions")
	}
	if f, ok := calls.Get("b"); f != nil || ok {
		t.Error("Get(b) is something of a tree of functions")
	}
	var trees tree.Tree[*tree.Tree[int]]
	inner, _ := filled(9)
	trees.Put("inner", inner)
	if x, ok := trees.Get("inner"); !ok || x.Len() != 9 {
		t.Error("Get(inner) isn't what was put of a tree of trees")
	}
}

// values puts, asks for and lets go things of one type.
func values[V comparable](t *testing.T, l ...V) {
	t.Helper()
	var x tree.Tree[V]
	var p plain[V]
	for round := range 20 {
		for i, v := range l {
			both(t, &x, &p, key(round*i), v)
		}
	}
	same(t, &x, &p)
	look(t, &x, &p, "not there")
	for round := range 20 {
		drop(t, &x, &p, key(round))
	}
	same(t, &x, &p)
}

// R3: what is handed in stays, and a tree goes on by itself: neither a list that keys
// were made of nor another tree turns it.
func TestHandedInStays(t *testing.T) {
	b := []byte("key")
	v := []int{1, 2, 3}
	var x, y tree.Tree[[]int]
	x.Put(string(b), v)
	y.Put(string(b), v)
	b[0] = 'K'
	x.Put("key", []int{4})
	x.Del("key")
	if !slices.Equal(v, []int{1, 2, 3}) {
		t.Errorf("what was put is %v behind other calls", v)
	}
	if got, ok := y.Get("key"); !ok || !slices.Equal(got, []int{1, 2, 3}) {
		t.Errorf("Get(key) = %v, %v behind calls of another tree", got, ok)
	}
}

// R5: what a tree answers hangs on what was put into it alone, not on what another
// one was asked.
func TestTreesByThemselves(t *testing.T) {
	x, p := filled(40)
	y, q := filled(8)
	for i := range 60 {
		both(t, x, p, key(i), i)
		drop(t, y, q, key(i))
	}
	same(t, x, p)
	same(t, y, q)
}
