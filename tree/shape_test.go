package tree

import (
	"fmt"
	"math/rand/v2"
	"slices"
	"testing"
)

// These tests look into the nodes, which no call tells of.

// shape holds P13.3 against each node of a tree, and the bound of P13.4.
func shape(t *testing.T, x *Tree[int]) {
	t.Helper()
	deep, keys := 0, []string{}
	if x.root != nil {
		deep = below(t, x.root, true, &keys)
	}
	if x.Deep() != deep {
		t.Fatalf("Deep() = %d, so many nodes stand above one another: %d", x.Deep(), deep)
	}
	if x.Len() != len(keys) {
		t.Fatalf("Len() = %d, so many keys are in the nodes: %d", x.Len(), len(keys))
	}
	for i, k := range keys {
		if i > 0 && keys[i-1] >= k {
			t.Fatalf("%q stands ahead of %q", keys[i-1], k)
		}
		if _, ok := x.Get(k); !ok {
			t.Fatalf("%q isn't found where it stands", k)
		}
	}
	if deep > bound(len(keys)) {
		t.Fatalf("%d keys are %d deep, it should be at most %d", len(keys), deep, bound(len(keys)))
	}
}

// below is how deep a node and its children are, and adds their keys in order.
func below(t *testing.T, n *node[int], root bool, keys *[]string) int {
	t.Helper()
	few := 3
	if root {
		few = 1
	}
	if len(n.pairs) < few || len(n.pairs) > 7 {
		t.Fatalf("a node has %d keys (the root: %v)", len(n.pairs), root)
	}
	if len(n.children) > 0 && len(n.children) != len(n.pairs)+1 {
		t.Fatalf("a node has %d keys and %d children", len(n.pairs), len(n.children))
	}
	deep := 0
	for i, p := range n.pairs {
		if len(n.children) > 0 {
			deep = level(t, deep, below(t, n.children[i], false, keys))
		}
		*keys = append(*keys, p.k)
	}
	if len(n.children) > 0 {
		deep = level(t, deep, below(t, n.children[len(n.pairs)], false, keys))
	}
	return deep + 1
}

// level is how deep a child is, which should be as deep as those ahead of it.
func level(t *testing.T, ahead, deep int) int {
	t.Helper()
	if ahead != 0 && ahead != deep {
		t.Fatalf("children are %d and %d deep", ahead, deep)
	}
	return deep
}

// bound is 1 and how often (n + 1) / 2 can be divided by 4, till less than 1 is left.
func bound(n int) int {
	b := 1
	for part := float64(n+1) / 2; part >= 4; part /= 4 {
		b++
	}
	return b
}

func numbered(i int) string { return fmt.Sprintf("%05d", i) }

// orders are the numbers below n, rising, falling, from both ends, and in no order.
func orders(n int) [][]int {
	r := rand.New(rand.NewPCG(13, uint64(n)))
	rising := make([]int, n)
	for i := range rising {
		rising[i] = i
	}
	falling := slices.Clone(rising)
	slices.Reverse(falling)
	ends := make([]int, n)
	for i := range ends {
		ends[i] = i / 2
		if i%2 == 1 {
			ends[i] = n - 1 - i/2
		}
	}
	return [][]int{rising, falling, ends, r.Perm(n), r.Perm(n)}
}

// P13.3, P13.4: behind each Put in each order, and behind each Del in each order.
func TestShape(t *testing.T) {
	for _, n := range []int{1, 3, 7, 8, 9, 40, 250} {
		for _, in := range orders(n) {
			for _, out := range orders(n) {
				var x Tree[int]
				shape(t, &x)
				for _, i := range in {
					x.Put(numbered(i), i)
					shape(t, &x)
				}
				for _, i := range out {
					if !x.Del(numbered(i)) {
						t.Fatalf("%d isn't there", i)
					}
					shape(t, &x)
				}
				if x.root != nil || x.Len() != 0 {
					t.Fatal("something is left")
				}
			}
		}
	}
}

// P13.3, P13.4: behind each call of long rows of them, with more put or more let go by
// turns.
func TestShapeOfLongRows(t *testing.T) {
	r := rand.New(rand.NewPCG(13, 4))
	for _, many := range []int{2, 9, 33, 200, 900} {
		var x Tree[int]
		for step := range 5000 {
			k := numbered(r.IntN(many))
			if (r.IntN(10) < 7) == (step/many%4 < 2) {
				x.Put(k, step)
			} else {
				x.Del(k)
			}
			shape(t, &x)
		}
	}
}

// P13.3, P13.4: trees of many keys, put and let go rising, falling and in no order.
func TestShapeOfGreatTrees(t *testing.T) {
	for _, order := range orders(20000) {
		var x Tree[int]
		for i, k := range order {
			x.Put(numbered(k), k)
			if i%997 == 0 {
				shape(t, &x)
			}
		}
		shape(t, &x)
		for i, k := range order {
			x.Del(numbered(k))
			if i%997 == 0 || i > len(order)-20 {
				shape(t, &x)
			}
		}
	}
}

// leaf is a node without children, of so many keys from a number on.
func leaf(from, n int) *node[int] {
	x := &node[int]{}
	for i := range n {
		x.pairs = append(x.pairs, pair[int]{numbered(from + i), from + i})
	}
	return x
}

// over is a node above leaves of so many keys, each key of its own between them; and
// the first number that is above all of them.
func over(from int, many ...int) (*node[int], int) {
	x := &node[int]{}
	for i, n := range many {
		if i > 0 {
			x.pairs = append(x.pairs, pair[int]{numbered(from), from})
			from++
		}
		x.children = append(x.children, leaf(from, n))
		from += n
	}
	return x, from
}

// all are the numbers that a tree has.
func all(x *Tree[int]) []int {
	var l []int
	for _, v := range x.From("") {
		l = append(l, v)
	}
	return l
}

// P13.3: a node of 3 keys from which one is let go, at each place among its brothers
// and beside brothers of each size; its own keys, and those of the node above.
func TestTooFew(t *testing.T) {
	for children := 2; children <= 8; children++ {
		for poor := range children {
			for left := 3; left <= 7; left++ {
				for right := 3; right <= 7; right++ {
					many := slices.Repeat([]int{7}, children)
					many[poor] = 3
					if poor > 0 {
						many[poor-1] = left
					}
					if poor < children-1 {
						many[poor+1] = right
					}
					eachLetGo(t, many)
				}
			}
		}
	}
}

// eachLetGo lets go each key, by itself, of a tree of two levels.
func eachLetGo(t *testing.T, many []int) {
	t.Helper()
	root, n := over(0, many...)
	for i := range n {
		x := Tree[int]{root: root, long: n}
		if !x.Del(numbered(i)) {
			t.Fatalf("of %v %d isn't there", many, i)
		}
		shape(t, &x)
		want := slices.Delete(orders(n)[0], i, i+1)
		if got := all(&x); !slices.Equal(got, want) {
			t.Fatalf("of %v without %d there is %v", many, i, got)
		}
	}
	whole := Tree[int]{root: root, long: n}
	shape(t, &whole)
}

// P13.3: a node of 7 keys to which one comes, at each place in it, at each place among
// its brothers; with room in the node above, and without.
func TestTooMany(t *testing.T) {
	for children := 2; children <= 8; children++ {
		for rich := range children {
			many := slices.Repeat([]int{3}, children)
			many[rich] = 7
			root, n := over(0, many...)
			for i := range n {
				x := Tree[int]{root: root, long: n}
				k := numbered(i) + " and behind it"
				if !x.Put(k, -1) {
					t.Fatalf("of %v Put(%q) = false, it should be true: it wasn't there", many, k)
				}
				shape(t, &x)
				want := slices.Insert(orders(n)[0], i+1, -1)
				if got := all(&x); !slices.Equal(got, want) {
					t.Fatalf("of %v with %q there is %v", many, k, got)
				}
			}
		}
	}
}

// P13.3: three levels, where what is too few, or too many, goes on to the root.
func TestToTheRoot(t *testing.T) {
	for _, many := range [][]int{{3, 3, 3, 3}, {7, 7, 7, 7, 7, 7, 7, 7}} {
		root := &node[int]{}
		n := 0
		for range 2 {
			if n > 0 {
				root.pairs = append(root.pairs, pair[int]{numbered(n), n})
				n++
			}
			var child *node[int]
			child, n = over(n, many...)
			root.children = append(root.children, child)
		}
		for i := range n {
			less, more := Tree[int]{root: root, long: n}, Tree[int]{root: root, long: n}
			less.Del(numbered(i))
			more.Put(numbered(i)+" and behind it", -1)
			shape(t, &less)
			shape(t, &more)
		}
		whole := Tree[int]{root: root, long: n}
		shape(t, &whole)
	}
}

// P13.3: how deep trees are at the edges; the chapter's example, 8 keys, rising.
func TestDeep(t *testing.T) {
	for _, c := range []struct{ n, deep int }{{0, 0}, {1, 1}, {3, 1}, {6, 1}, {7, 1}, {8, 2}} {
		for _, order := range orders(c.n) {
			var x Tree[int]
			for _, i := range order {
				x.Put(numbered(i), i)
			}
			if x.Deep() != c.deep {
				t.Errorf("Deep() = %d of %d keys, it should be %d", x.Deep(), c.n, c.deep)
			}
		}
	}
}

// P13.4: the bound itself, where it takes one more.
func TestBound(t *testing.T) {
	for _, c := range []struct{ n, most int }{{0, 1}, {1, 1}, {6, 1}, {7, 2}, {8, 2}, {30, 2}, {31, 3}, {126, 3}, {127, 4}, {511, 5}} {
		if got := bound(c.n); got != c.most {
			t.Errorf("%d keys may be %d deep, it should be %d", c.n, got, c.most)
		}
	}
}

// P13.3: a tree that is turned leaves the nodes of one that it was copied from alone.
func TestNodesStay(t *testing.T) {
	var x Tree[int]
	for i := range 200 {
		x.Put(numbered(i), i)
	}
	y := x
	for i := range 200 {
		y.Put(numbered(i)+" and behind it", i)
		y.Del(numbered(i))
	}
	shape(t, &x)
	shape(t, &y)
	if got := all(&x); !slices.Equal(got, orders(200)[0]) {
		t.Errorf("it became %v", got)
	}
}
