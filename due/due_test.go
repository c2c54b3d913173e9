package due_test

import (
	"fmt"
	"math"
	"reflect"
	"slices"
	"sync"
	"testing"

	"quartermaster/api"
	"quartermaster/due"
)

// answer is what First or Take tells.
type answer struct {
	x  api.Due
	ok bool
}

func first(q *due.Queue) answer {
	x, ok := q.First()
	return answer{x, ok}
}

func take(q *due.Queue, now int) answer {
	x, ok := q.Take(now)
	return answer{x, ok}
}

// is is an answer that there is one, no the answer that there is none.
func is(at, id int) answer { return answer{api.Due{At: at, ID: id}, true} }

var no answer

// queue is one in which these were put, each At and ID.
func queue(l ...[2]int) *due.Queue {
	var q due.Queue
	for _, x := range l {
		q.Put(api.Due{At: x[0], ID: x[1]})
	}
	return &q
}

// told holds answers against what they should be.
func told[T comparable](t *testing.T, what string, got, want T) {
	t.Helper()
	if got != want {
		t.Errorf("%s = %v, it should be %v", what, got, want)
	}
}

// P15.1: the chapter's example.
func TestExample(t *testing.T) {
	q := queue([2]int{5, 1}, [2]int{3, 9}, [2]int{5, 0})
	told(t, "Len()", q.Len(), 3)
	told(t, "First()", first(q), is(3, 9))
	told(t, "Take(4)", take(q, 4), is(3, 9))
	told(t, "Take(4) once more", take(q, 4), no)
	told(t, "Len() behind it", q.Len(), 2)
	told(t, "Take(5)", take(q, 5), is(5, 0))
	told(t, "Take(5) once more", take(q, 5), is(5, 1))
	told(t, "Take(5) of nothing", take(q, 5), no)
	told(t, "Len() in the end", q.Len(), 0)
}

// P15.1: a zero Queue, and one that has become empty again in each way, has nothing,
// and is one into which things may be put.
func TestEmpty(t *testing.T) {
	emptied := func(turn func(q *due.Queue)) *due.Queue {
		q := queue([2]int{5, 1}, [2]int{-3, 1}, [2]int{5, 1})
		turn(q)
		return q
	}
	for name, q := range map[string]*due.Queue{
		"zero": {},
		"new":  new(due.Queue),
		"all dropped": emptied(func(q *due.Queue) {
			told(t, "Drop(1)", q.Drop(1), 3)
		}),
		"all taken": emptied(func(q *due.Queue) {
			told(t, "Take(9)", take(q, 9), is(-3, 1))
			told(t, "Take(9)", take(q, 9), is(5, 1))
			told(t, "Take(9)", take(q, 9), is(5, 1))
		}),
		"some taken, the rest dropped": emptied(func(q *due.Queue) {
			told(t, "Take(-3)", take(q, -3), is(-3, 1))
			told(t, "Drop(1)", q.Drop(1), 2)
		}),
	} {
		t.Run(name, func(t *testing.T) {
			told(t, "Len()", q.Len(), 0)
			told(t, "First()", first(q), no)
			for _, n := range edges() {
				told(t, fmt.Sprintf("Take(%d)", n), take(q, n), no)
				told(t, fmt.Sprintf("Drop(%d)", n), q.Drop(n), 0)
			}
			told(t, "Len() behind all", q.Len(), 0)
			told(t, "First() behind all", first(q), no)
			q.Put(api.Due{At: 2, ID: 3})
			told(t, "Len() of one", q.Len(), 1)
			told(t, "First() of one", first(q), is(2, 3))
			told(t, "Take(1) of one", take(q, 1), no)
			told(t, "Take(2) of one", take(q, 2), is(2, 3))
			told(t, "Len() behind it", q.Len(), 0)
		})
	}
}

// P15.1: a nil Queue has nothing, and takes nothing.
func TestNil(t *testing.T) {
	var q *due.Queue
	for range 2 {
		told(t, "Len()", q.Len(), 0)
		told(t, "First()", first(q), no)
		for _, n := range edges() {
			told(t, fmt.Sprintf("Take(%d)", n), take(q, n), no)
			told(t, fmt.Sprintf("Drop(%d)", n), q.Drop(n), 0)
			q.Put(api.Due{At: n, ID: n})
			told(t, "Len() behind a Put", q.Len(), 0)
			told(t, "First() behind a Put", first(q), no)
			told(t, "Take behind a Put", take(q, math.MaxInt), no)
			told(t, "Drop behind a Put", q.Drop(n), 0)
		}
	}
}

// P15.1: what is put once more is there once more, and is taken as often; a Drop lets
// all of them go.
func TestTwice(t *testing.T) {
	for n := range 6 {
		x := slices.Repeat([]api.Due{{At: 5, ID: 1}}, n)
		p := pairOf(t, x...)
		told(t, "Len()", p.q.Len(), n)
		for i := range n {
			told(t, "Take(5)", take(p.q, 5), is(5, 1))
			told(t, "Len()", p.q.Len(), n-i-1)
		}
		told(t, "Take(5) once too often", take(p.q, 5), no)
		q := pairOf(t, append(x, api.Due{At: 5, ID: 2}, api.Due{At: 4, ID: 1})...).q
		told(t, "Drop(1)", q.Drop(1), n+1)
		told(t, "Len()", q.Len(), 1)
		told(t, "Take(5)", take(q, 5), is(5, 2))
	}
}

// P15.1, P15.2: the first one is that of the least At, of one At that of the least ID,
// both also below 0 and at the edges of numbers; all that there are come in that order.
func TestEdges(t *testing.T) {
	var all []api.Due
	for _, at := range edges() {
		for _, id := range edges() {
			all = append(all, api.Due{At: at, ID: id})
		}
	}
	r := mixed(1)
	for range 20 {
		l := slices.Clone(all)
		r.Shuffle(len(l), func(i, k int) { l[i], l[k] = l[k], l[i] })
		p := pairOf(t, l...)
		for i, x := range all {
			if x.At > math.MinInt {
				told(t, fmt.Sprintf("Take(%d)", x.At-1), take(p.q, x.At-1), no)
			}
			told(t, "First()", first(p.q), is(x.At, x.ID))
			told(t, fmt.Sprintf("Take(%d)", x.At), take(p.q, x.At), is(x.At, x.ID))
			told(t, "Len()", p.q.Len(), len(all)-i-1)
		}
	}
}

// P15.1: of two, which is the first, whichever was put ahead of the other.
func TestTwo(t *testing.T) {
	for _, at := range edges() {
		for _, id := range edges() {
			for _, otherAt := range edges() {
				for _, otherID := range edges() {
					a, b := api.Due{At: at, ID: id}, api.Due{At: otherAt, ID: otherID}
					l := []api.Due{a, b}
					slices.SortFunc(l, rises)
					q := pairOf(t, a, b).q
					told(t, "First()", first(q), answer{l[0], true})
					told(t, "Take", take(q, math.MaxInt), answer{l[0], true})
					told(t, "Take", take(q, math.MaxInt), answer{l[1], true})
				}
			}
		}
	}
}

// P15.1: Take just at an At, one ahead of it and one behind it; what was not taken is
// there still.
func TestTakeAt(t *testing.T) {
	for _, at := range edges() {
		for _, more := range [][]api.Due{nil, {{At: at, ID: 9}}, {{At: math.MaxInt, ID: -9}, {At: math.MaxInt, ID: 8}}} {
			l := append([]api.Due{{At: at, ID: 8}}, more...)
			want := slices.MinFunc(l, rises)
			if at > math.MinInt {
				p := pairOf(t, l...)
				for _, now := range []int{at - 1, math.MinInt} {
					told(t, fmt.Sprintf("Take(%d)", now), take(p.q, now), no)
					told(t, "Len()", p.q.Len(), len(l))
					told(t, "First()", first(p.q), answer{want, true})
				}
			}
			told(t, fmt.Sprintf("Take(%d)", at), take(pairOf(t, l...).q, at), answer{want, true})
			if at < math.MaxInt {
				told(t, fmt.Sprintf("Take(%d)", at+1), take(pairOf(t, l...).q, at+1), answer{want, true})
			}
			told(t, "Take of the greatest", take(pairOf(t, l...).q, math.MaxInt), answer{want, true})
		}
	}
}

// P15.1: Drop of an ID that none has, that one has, that several have at some At or
// other, that all have; also of one that is an At. Those that are left come as they
// would have.
func TestDrop(t *testing.T) {
	l := []api.Due{{At: 3, ID: 2}, {At: 1, ID: 5}, {At: 2, ID: 2}, {At: 1, ID: 2}, {At: 4, ID: math.MinInt}, {At: 9, ID: math.MaxInt}, {At: 3, ID: 2}, {At: 9, ID: -1}, {At: -7, ID: 0}}
	for id, want := range map[int]int{2: 4, 5: 1, 1: 0, 3: 0, 4: 0, 9: 0, -7: 0, math.MinInt: 1, math.MaxInt: 1, -1: 1, 0: 1, -2: 0, 7: 0, math.MinInt + 1: 0} {
		permuted(l[:6], func(some []api.Due) {
			p := pairOf(t, append(some, l[6:]...)...)
			told(t, fmt.Sprintf("Drop(%d)", id), p.q.Drop(id), want)
			p.p.drop(id)
			p.look()
			told(t, fmt.Sprintf("Drop(%d) once more", id), p.q.Drop(id), 0)
			p.empty()
		})
	}
	for _, n := range sizes() {
		for name, l := range shapes(mixed(2), n) {
			p := pairOf(t, l...)
			for _, x := range l {
				x.ID = 77
				p.put(x)
			}
			told(t, name+": Drop(77)", p.q.Drop(77), p.p.drop(77))
			p.look()
			p.empty()
			p = pairOf(t)
			for _, x := range l {
				x.ID = 77
				p.put(x)
			}
			told(t, name+": Drop(76) of none", p.q.Drop(76), 0)
			told(t, name+": Drop(77) of all", p.q.Drop(77), n)
			p.p.drop(77)
			p.look()
		}
	}
}

// P15.1: of each size and shape each ID is dropped alone, and all of them one behind
// the other, and what is put behind each Drop comes in its turn.
func TestDropEach(t *testing.T) {
	for _, n := range sizes() {
		for name, l := range shapes(mixed(3), n) {
			t.Run(fmt.Sprintf("%d %s", n, name), func(t *testing.T) {
				for i := range l {
					p := pairOf(t, l...)
					p.drop(l[i].ID)
					p.put(l[i])
					p.put(api.Due{At: 3, ID: 4})
					p.empty()
				}
				p := pairOf(t, l...)
				for _, x := range l {
					p.drop(x.ID)
				}
				told(t, "Len()", p.q.Len(), 0)
				for _, x := range l {
					p.put(x)
				}
				p.empty()
			})
		}
	}
}

// P15.1: what is put behind the last Take comes in its turn, also where its At is ahead
// of all that was taken.
func TestPutBehind(t *testing.T) {
	q := queue([2]int{5, 1}, [2]int{6, 1})
	told(t, "Take(6)", take(q, 6), is(5, 1))
	q.Put(api.Due{At: 4, ID: 1})
	q.Put(api.Due{At: 6, ID: 0})
	told(t, "Take(6)", take(q, 6), is(4, 1))
	told(t, "Take(6)", take(q, 6), is(6, 0))
	told(t, "Take(6)", take(q, 6), is(6, 1))
	told(t, "Take(6)", take(q, 6), no)
	q.Put(api.Due{At: math.MinInt, ID: math.MaxInt})
	told(t, "Take(6) of one that was put behind", take(q, 6), is(math.MinInt, math.MaxInt))
	for _, n := range sizes() {
		for _, l := range shapes(mixed(4), n) {
			p := pairOf(t, l...)
			p.empty()
			for i := range l {
				p.put(l[len(l)-1-i])
				if i%2 == 1 {
					p.take(math.MaxInt)
				}
			}
			p.empty()
		}
	}
}

// P15.1: all orders of a few, in which some are the same, are the same queue.
func TestOrders(t *testing.T) {
	for name, l := range map[string][]api.Due{
		"none":          {},
		"one":           {{At: 1, ID: 2}},
		"two":           {{At: 1, ID: 2}, {At: 1, ID: 1}},
		"the example":   {{At: 5, ID: 1}, {At: 3, ID: 9}, {At: 5, ID: 0}},
		"six of one At": {{ID: 1}, {ID: 2}, {ID: 3}, {ID: -1}, {ID: -2}, {ID: 2}},
		"seven":         {{At: 1, ID: 7}, {At: 2, ID: 6}, {At: 3, ID: 5}, {At: 4, ID: 4}, {At: 5, ID: 3}, {At: 6, ID: 2}, {At: 7, ID: 1}},
		"some twice":    {{At: 1, ID: 7}, {At: 2, ID: 6}, {At: 1, ID: 7}, {At: 2, ID: 5}, {At: -2, ID: 6}, {At: 2, ID: 6}, {}},
		"the greatest":  {{At: math.MaxInt, ID: math.MaxInt}, {At: math.MaxInt, ID: math.MinInt}, {At: math.MinInt, ID: math.MaxInt}, {At: math.MinInt, ID: math.MinInt}, {}, {ID: math.MinInt}},
	} {
		t.Run(name, func(t *testing.T) {
			sorted := slices.Clone(l)
			slices.SortFunc(sorted, rises)
			permuted(l, func(l []api.Due) {
				q := pairOf(t, l...).q
				for i, x := range sorted {
					if got := take(q, x.At); got != (answer{x, true}) {
						t.Fatalf("%v: the %d. that is taken is %v, it should be %v", l, i, got, x)
					}
				}
				told(t, "Take of nothing", take(q, math.MaxInt), no)
				for _, x := range l {
					p := pairOf(t, l...)
					p.drop(x.ID)
					p.empty()
				}
			})
		})
	}
}

// P15.1: drawn calls, one behind the other; behind each all is held against a plain
// list.
func TestDrawn(t *testing.T) {
	for name, at := range kinds() {
		for other, id := range kinds() {
			t.Run(name+" "+other, func(t *testing.T) {
				for seed := range uint64(12) {
					r := mixed(100 + seed)
					puts := 2 + int(seed%6) // of ten calls: where there are few, it is empty often
					p := pairOf(t)
					for range 600 {
						switch n := r.IntN(10); {
						case n < puts:
							p.put(api.Due{At: at(r), ID: id(r)})
						case n < 8:
							p.take(at(r))
						case n < 9:
							p.drop(id(r))
						default:
							p.take(math.MaxInt)
						}
					}
					p.empty()
				}
			})
		}
	}
}

// P15.1: queues of many, put, partly taken, dropped from and put into again.
func TestMany(t *testing.T) {
	r := mixed(5)
	for range 3 {
		p := pairOf(t, drawn(r, 1500, some, edge)...)
		for range 400 {
			p.take(some(r))
		}
		for _, id := range edges()[:4] {
			p.drop(id)
		}
		for _, x := range drawn(r, 300, edge, some) {
			p.put(x)
		}
		p.empty()
	}
	const many = 200000
	var q due.Queue
	want := drawn(r, many, any64, any64)
	for _, x := range want {
		q.Put(x)
	}
	slices.SortFunc(want, rises)
	for _, x := range want {
		if got := take(&q, x.At); got != (answer{x, true}) {
			t.Fatalf("of %d Take(%d) = %v, it should be %v", many, x.At, got, x)
		}
	}
}

// P15.2: what is taken till nothing is rises by At, then by ID; it is all whose At is
// not above now, each as often as it was put, and no other; the others are there still.
func TestTillNothing(t *testing.T) {
	r := mixed(6)
	for _, n := range sizes() {
		times := append(edges(), -4, -3, 3, 6, 7, 8, 50, some(r))
		for name, l := range shapes(r, n) {
			for _, now := range times {
				q := pairOf(t, l...).q
				var ahead, behind []api.Due
				for _, x := range l {
					if x.At > now {
						behind = append(behind, x)
					} else {
						ahead = append(ahead, x)
					}
				}
				got := till(q, now)
				if !slices.IsSortedFunc(got, rises) {
					t.Fatalf("%d %s, Take(%d): %v does not rise", n, name, now, got)
				}
				same(t, fmt.Sprintf("%d %s: what Take(%d) takes", n, name, now), got, ahead)
				told(t, "Len()", q.Len(), len(behind))
				if x, ok := q.First(); ok && x.At <= now {
					t.Fatalf("%d %s: behind the last Take(%d) the first is %v", n, name, now, x)
				}
				same(t, fmt.Sprintf("%d %s: what is left behind Take(%d)", n, name, now), till(q, math.MaxInt), behind)
			}
		}
	}
}

// till is what is taken at one time, till nothing is: at most one more than there are,
// so that it ends also where what is taken stays.
func till(q *due.Queue, now int) []api.Due {
	var l []api.Due
	for range q.Len() + 1 {
		x, ok := q.Take(now)
		if !ok {
			break
		}
		l = append(l, x)
	}
	return l
}

// same holds lists against each other, whatever their order.
func same(t *testing.T, what string, got, want []api.Due) {
	t.Helper()
	got, want = slices.Clone(got), slices.Clone(want)
	slices.SortFunc(got, rises)
	slices.SortFunc(want, rises)
	if !slices.Equal(got, want) {
		t.Fatalf("%s is %v, it should be %v", what, got, want)
	}
}

// P15.2: as time goes on, in steps, and others are put behind now, and ahead of it, all
// is taken when its time has come, or, if that had come already, at the next step.
func TestTimeGoesOn(t *testing.T) {
	for seed := range uint64(40) {
		r := mixed(200 + seed)
		var q due.Queue
		var waits []api.Due
		for now := -10; now < 60; now += r.IntN(4) {
			for _, x := range drawn(r, r.IntN(5), some, few) {
				x.At += now
				q.Put(x)
				waits = append(waits, x)
			}
			var want []api.Due
			waits = slices.DeleteFunc(waits, func(x api.Due) bool {
				if x.At <= now {
					want = append(want, x)
				}
				return x.At <= now
			})
			slices.SortFunc(want, rises)
			if got := till(&q, now); !slices.Equal(got, want) {
				t.Fatalf("at %d %v is taken, it should be %v", now, got, want)
			}
			told(t, "Len()", q.Len(), len(waits))
		}
	}
}

// R3: what is handed in stays, and what is handed out is the caller's own; two queues
// have nothing in common.
func TestOwn(t *testing.T) {
	l := shapes(mixed(7), 8)["drawn"]
	kept := slices.Clone(l)
	var q, other due.Queue
	for i := range l {
		q.Put(l[i])
		l[i] = api.Due{At: math.MinInt, ID: math.MinInt} // the caller's own
	}
	slices.SortFunc(kept, rises)
	for _, want := range kept {
		told(t, "another queue's First()", first(&other), no)
		told(t, "another queue's Len()", other.Len(), 0)
		x, _ := q.First()
		x.At, x.ID = math.MaxInt, -x.ID
		told(t, "First() behind a change of what it was", first(&q), answer{want, true})
		y, _ := q.Take(math.MaxInt)
		told(t, "Take", y, want)
		y.At--
	}
	q.Put(api.Due{At: 1, ID: 1})
	other.Put(api.Due{At: 0, ID: 1})
	told(t, "Drop(1)", q.Drop(1), 1)
	told(t, "another queue's First()", first(&other), is(0, 1))
}

// R5: First, Len, a Take that takes nothing and a Drop of none turn nothing, however
// often they are asked; the same calls have the same answers.
func TestTurnsNothing(t *testing.T) {
	for _, n := range sizes() {
		for _, l := range shapes(mixed(8), n) {
			p, alike := pairOf(t, l...), pairOf(t, l...)
			least := math.MaxInt
			for _, x := range l {
				least = min(least, x.At)
			}
			for range 5 {
				p.look()
				if least > math.MinInt {
					told(t, "Take ahead of all", p.take(least-1), false)
				}
				p.drop(987654321)
			}
			for range n {
				told(t, "Take of one that was asked more", take(p.q, math.MaxInt), take(alike.q, math.MaxInt))
			}
			told(t, "Len()", p.q.Len(), 0)
		}
	}
}

// R5: queues that are turned at one time do not meet.
func TestApart(t *testing.T) {
	var all sync.WaitGroup
	for seed := range uint64(8) {
		all.Go(func() {
			r := mixed(300 + seed)
			l := drawn(r, 500, some, some)
			var q due.Queue
			for _, x := range l {
				q.Put(x)
			}
			slices.SortFunc(l, rises)
			for _, x := range l {
				if got := take(&q, x.At); got != (answer{x, true}) {
					t.Errorf("Take(%d) = %v, it should be %v", x.At, got, x)
				}
			}
		})
	}
	all.Wait()
}

// The chapter lists the calls: a Queue has no others, and nothing of it is to be seen.
func TestFace(t *testing.T) {
	face := reflect.TypeFor[*due.Queue]()
	var names []string
	for i := range face.NumMethod() {
		names = append(names, face.Method(i).Name)
	}
	if want := []string{"Drop", "First", "Len", "Put", "Take"}; !slices.Equal(names, want) {
		t.Errorf("a Queue has %v, it should have %v", names, want)
	}
	for i := range face.Elem().NumField() {
		if f := face.Elem().Field(i); f.IsExported() {
			t.Errorf("a Queue shows %s", f.Name)
		}
	}
}
