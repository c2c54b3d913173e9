package tree_test

import (
	"fmt"
	"math/rand/v2"
	"slices"
	"testing"

	"quartermaster/tree"
)

// first is what a going hands on that is stopped behind so many; never, if there are
// fewer.
func first(x *tree.Tree[int], k string, n int) []pair[int] {
	var l []pair[int]
	x.From(k)(func(k string, v int) bool {
		l = append(l, pair[int]{k, v})
		return len(l) < n
	})
	return l
}

// P13.2: from each key that is there, from one below all, from those between, from one
// above all, and from texts that are longer than keys or begin them.
func TestFrom(t *testing.T) {
	for _, n := range sizes() {
		x, p := filled(n)
		for i := range 2*n + 3 {
			for _, k := range []string{key(i), key(i) + "\x00", key(i)[:4], "", "/", "0", ":", "\xff"} {
				if got, want := gone(x, k), p.from(k); !slices.Equal(got, want) {
					t.Fatalf("of %d keys From(%q) hands on %v, it should %v", n, k, got, want)
				}
			}
		}
	}
}

// P13.2: a going that is told to stop at once, behind one, in the midst, or never.
func TestFromStopped(t *testing.T) {
	for _, n := range sizes() {
		x, p := filled(n)
		for i := 0; i < 2*n+2; i += 1 + n/20 {
			want := p.from(key(i))
			for stop := 1; stop <= len(want)+1; stop += 1 + n/30 {
				// A going that is told to stop hands on nothing more: first's list would be longer.
				got := first(x, key(i), stop)
				if !slices.Equal(got, want[:min(stop, len(want))]) {
					t.Fatalf("of %d keys From(%q), stopped behind %d, hands on %v", n, key(i), stop, got)
				}
			}
		}
	}
}

// P13.2: what From answers can be gone through again: each going begins anew, with
// what is there then.
func TestFromTwice(t *testing.T) {
	x, p := filled(50)
	going := x.From(key(21))
	for round := range 4 {
		var l []pair[int]
		for k, v := range going {
			l = append(l, pair[int]{k, v})
			if round == 1 && len(l) == 5 {
				break
			}
		}
		want := p.from(key(21))
		if round == 1 {
			want = want[:5]
		}
		if !slices.Equal(l, want) {
			t.Fatalf("going %d hands on %v, it should %v", round, l, want)
		}
		both(t, x, p, key(30+2*round), round)
		drop(t, x, p, key(51+2*round))
	}
}

// P13.2: two goings at a time, one within the other and of one tree.
func TestTwoGoings(t *testing.T) {
	x, p := filled(30)
	i := 0
	for k, v := range x.From("") {
		if (pair[int]{k, v}) != p.l[i] {
			t.Fatalf("the going without hands on %q, %v at %d", k, v, i)
		}
		if got := first(x, k, 1+i%9); !slices.Equal(got, p.l[i:min(i+1+i%9, len(p.l))]) {
			t.Fatalf("the going within hands on %v at %d", got, i)
		}
		i++
	}
	if i != len(p.l) {
		t.Errorf("the going without hands on %d, it should %d", i, len(p.l))
	}
}

// P13.2: calls between From and the going: what is handed on is what is there when the
// going begins.
func TestBetweenFromAndGoing(t *testing.T) {
	for _, n := range sizes() {
		x, p := filled(n)
		all, some := x.From(""), x.From(key(n))
		for i := range 3 * n {
			switch i % 3 {
			case 0:
				both(t, x, p, key(i), -1)
			case 1:
				drop(t, x, p, key(i))
			}
		}
		var l, m []pair[int]
		for k, v := range all {
			l = append(l, pair[int]{k, v})
		}
		for k, v := range some {
			m = append(m, pair[int]{k, v})
		}
		if !slices.Equal(l, p.l) || !slices.Equal(m, p.from(key(n))) {
			t.Fatalf("of %d keys the goings hand on %v and %v, it should be %v and of these the last ones", n, l, m, p.l)
		}
	}
}

// P13.2: a zero Tree that is filled behind From has what it has when the going begins.
func TestFromOfZeroTree(t *testing.T) {
	var x tree.Tree[int]
	going := x.From("")
	x.Put("a", 1)
	n := 0
	for k, v := range going {
		n++
		if k != "a" || v != 1 {
			t.Errorf("the going hands on %q, %v", k, v)
		}
	}
	if n != 1 {
		t.Errorf("the going hands on %d", n)
	}
}

// P13.2: Put and Del ahead of where a going stands, behind it, and of the key itself,
// while it goes on: it hands on what was there when it began; what is done is done.
func TestTurnedWhileGoing(t *testing.T) {
	for _, n := range sizes() {
		for name, turn := range turns() {
			t.Run(fmt.Sprint(n, " ", name), func(t *testing.T) {
				x, p := filled(n)
				want := p.from(key(3))
				var got []pair[int]
				for k, v := range x.From(key(3)) {
					got = append(got, pair[int]{k, v})
					turn(t, x, p, 2*len(got)+1)
				}
				if !slices.Equal(got, want) {
					t.Fatalf("the going hands on %v, it should %v", got, want)
				}
				same(t, x, p)
			})
		}
	}
}

// turns are what is done while a going stands at the key of a number.
func turns() map[string]func(t *testing.T, x *tree.Tree[int], p *plain[int], at int) {
	type trees = func(t *testing.T, x *tree.Tree[int], p *plain[int], at int)
	return map[string]trees{
		"put ahead": func(t *testing.T, x *tree.Tree[int], p *plain[int], at int) {
			both(t, x, p, key(at+1), -1)
			both(t, x, p, key(at+2), -2)
			both(t, x, p, key(9000+at), -3)
		},
		"put behind": func(t *testing.T, x *tree.Tree[int], p *plain[int], at int) {
			both(t, x, p, key(at-1), -1)
			both(t, x, p, key(at-2), -2)
			both(t, x, p, "!"+key(at), -3)
		},
		"put itself": func(t *testing.T, x *tree.Tree[int], p *plain[int], at int) {
			both(t, x, p, key(at), -1)
		},
		"let go ahead": func(t *testing.T, x *tree.Tree[int], p *plain[int], at int) {
			drop(t, x, p, key(at+2))
			drop(t, x, p, key(at+8))
			drop(t, x, p, key(at+10))
		},
		"let go behind": func(t *testing.T, x *tree.Tree[int], p *plain[int], at int) {
			drop(t, x, p, key(at-2))
			drop(t, x, p, key(1))
		},
		"let go itself": func(t *testing.T, x *tree.Tree[int], p *plain[int], at int) {
			drop(t, x, p, key(at))
		},
		"let go all": func(t *testing.T, x *tree.Tree[int], p *plain[int], at int) {
			for len(p.l) > 0 {
				drop(t, x, p, p.l[len(p.l)/2].k)
			}
		},
		"put all anew": func(t *testing.T, x *tree.Tree[int], p *plain[int], at int) {
			for i := range min(3*at, 100) {
				both(t, x, p, key(i), at)
			}
		},
	}
}

// P13.2: goings that have begun at several times, the one within the other, while the
// tree is turned in no order, each hand on what was there at their own beginning.
func TestManyGoings(t *testing.T) {
	r := rand.New(rand.NewPCG(13, 3))
	x, p := filled(60)
	var going func(deep int)
	going = func(deep int) {
		k := key(r.IntN(130))
		want := p.from(k)
		stop := r.IntN(len(want) + 2)
		var got []pair[int]
		for k, v := range x.From(k) {
			got = append(got, pair[int]{k, v})
			both(t, x, p, key(r.IntN(130)), r.Int())
			drop(t, x, p, key(r.IntN(130)))
			if deep > 0 && r.IntN(4) == 0 {
				going(deep - 1)
			}
			if len(got) == stop {
				break
			}
		}
		if !slices.Equal(got, want[:len(got)]) || (len(got) != stop && len(got) != len(want)) {
			t.Fatalf("a going from %q hands on %v, it should %v", k, got, want)
		}
	}
	for range 40 {
		going(2)
	}
	same(t, x, p)
}

// P13.2, R3: what is handed on is the caller's own: a list of it stays as it was,
// whatever becomes of the tree.
func TestHandedOnStays(t *testing.T) {
	x, p := filled(40)
	l := gone(x, "")
	want := slices.Clone(p.l)
	for i := range 90 {
		both(t, x, p, key(i), i)
		drop(t, x, p, key(i/2))
	}
	if !slices.Equal(l, want) {
		t.Errorf("what was handed on became %v", l)
	}
}
