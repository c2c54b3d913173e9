package due_test

import (
	"cmp"
	"math"
	"math/rand/v2"
	"slices"
	"testing"

	"quartermaster/api"
	"quartermaster/due"
)

// mixed is what mixes things up, the same way in each run.
func mixed(seed uint64) *rand.Rand { return rand.New(rand.NewPCG(seed, 15)) }

// plain is what a queue should be: a list of all that was put and is still there, as
// it was put, gone through from its beginning each time.
type plain struct{ l []api.Due }

func (p *plain) put(x api.Due) { p.l = append(p.l, x) }

// next is where the one stands that is the first by the chapter's words, of two that
// are the same the one that was put ahead; -1, if there is none.
func (p *plain) next() int {
	at := -1
	for i, x := range p.l {
		if at < 0 || x.At < p.l[at].At || x.At == p.l[at].At && x.ID < p.l[at].ID {
			at = i
		}
	}
	return at
}

func (p *plain) first() (api.Due, bool) {
	i := p.next()
	if i < 0 {
		return api.Due{}, false
	}
	return p.l[i], true
}

func (p *plain) take(now int) (api.Due, bool) {
	i := p.next()
	if i < 0 || p.l[i].At > now {
		return api.Due{}, false
	}
	x := p.l[i]
	p.l = slices.Delete(p.l, i, i+1)
	return x, true
}

func (p *plain) drop(id int) int {
	var left []api.Due
	for _, x := range p.l {
		if x.ID != id {
			left = append(left, x)
		}
	}
	gone := len(p.l) - len(left)
	p.l = left
	return gone
}

// pair is a queue, and what it should be: each call is made of both, and the answers
// are held against each other.
type pair struct {
	t *testing.T
	q *due.Queue
	p plain
}

// pairOf is a pair in which these were put.
func pairOf(t *testing.T, l ...api.Due) *pair {
	t.Helper()
	x := &pair{t: t, q: &due.Queue{}}
	x.look()
	for _, d := range l {
		x.put(d)
	}
	return x
}

func (x *pair) look() {
	x.t.Helper()
	got, ok := x.q.First()
	want, is := x.p.first()
	if got != want || ok != is {
		x.t.Fatalf("First() = %v, %v, it should be %v, %v, of %v", got, ok, want, is, x.p.l)
	}
	if n := x.q.Len(); n != len(x.p.l) {
		x.t.Fatalf("Len() = %d, it should be %d, of %v", n, len(x.p.l), x.p.l)
	}
}

func (x *pair) put(d api.Due) {
	x.t.Helper()
	x.q.Put(d)
	x.p.put(d)
	x.look()
}

func (x *pair) take(now int) bool {
	x.t.Helper()
	had := slices.Clone(x.p.l)
	got, ok := x.q.Take(now)
	want, is := x.p.take(now)
	if got != want || ok != is {
		x.t.Fatalf("Take(%d) = %v, %v, it should be %v, %v, of %v", now, got, ok, want, is, had)
	}
	x.look()
	return ok
}

func (x *pair) drop(id int) {
	x.t.Helper()
	had := slices.Clone(x.p.l)
	if got, want := x.q.Drop(id), x.p.drop(id); got != want {
		x.t.Fatalf("Drop(%d) = %d, it should be %d, of %v", id, got, want, had)
	}
	x.look()
}

// empty takes all that is left, one by one.
func (x *pair) empty() {
	x.t.Helper()
	for x.take(math.MaxInt) {
	}
	if x.q.Len() != 0 {
		x.t.Fatalf("all is taken, and Len() = %d", x.q.Len())
	}
}

// rises tells in which order two stand, by the chapter's words.
func rises(a, b api.Due) int {
	if c := cmp.Compare(a.At, b.At); c != 0 {
		return c
	}
	return cmp.Compare(a.ID, b.ID)
}

// kind is one who draws numbers: near ones, so that many are the same, far ones, and
// those at the edges of what a number may be.
type kind func(r *rand.Rand) int

func few(r *rand.Rand) int { return r.IntN(3) - 1 }

func some(r *rand.Rand) int { return r.IntN(40) - 20 }

func any64(r *rand.Rand) int { return int(r.Uint64()) }

func edge(r *rand.Rand) int { return edges()[r.IntN(len(edges()))] }

func edges() []int {
	return []int{math.MinInt, math.MinInt + 1, -1 << 32, -2, -1, 0, 1, 2, 1 << 32, math.MaxInt - 1, math.MaxInt}
}

// kinds are all of them, by name.
func kinds() map[string]kind {
	return map[string]kind{"few": few, "some": some, "any": any64, "edges": edge}
}

// drawn are n that were drawn.
func drawn(r *rand.Rand, n int, at, id kind) []api.Due {
	l := make([]api.Due, n)
	for i := range l {
		l[i] = api.Due{At: at(r), ID: id(r)}
	}
	return l
}

// sizes are those of queues with which the library's heap has no, one, two and more
// rows, just full or just begun.
func sizes() []int { return []int{0, 1, 2, 3, 4, 7, 8, 9, 15, 16, 31, 100} }

// shapes are lists of n that were put in some order.
func shapes(r *rand.Rand, n int) map[string][]api.Due {
	rising := make([]api.Due, n)
	for i := range rising {
		rising[i] = api.Due{At: i, ID: n - i}
	}
	falling := slices.Clone(rising)
	slices.Reverse(falling)
	shuffled := slices.Clone(rising)
	r.Shuffle(n, func(i, k int) { shuffled[i], shuffled[k] = shuffled[k], shuffled[i] })
	oneAt := make([]api.Due, n)
	oneID := make([]api.Due, n)
	for i, k := range r.Perm(n) {
		oneAt[i] = api.Due{At: 7, ID: k - n/2}
		oneID[i] = api.Due{At: k - n/2, ID: 7}
	}
	return map[string][]api.Due{
		"rising": rising, "falling": falling, "shuffled": shuffled, "of one At": oneAt, "of one ID": oneID,
		"all the same": slices.Repeat([]api.Due{{At: -3, ID: 4}}, n),
		"zero":         make([]api.Due, n),
		"drawn":        drawn(r, n, some, some),
		"at the edges": drawn(r, n, edge, edge),
	}
}

// permuted hands all orders of a list to one who looks at them.
func permuted(l []api.Due, look func(l []api.Due)) {
	var from func(n int)
	from = func(n int) {
		if n == len(l) {
			look(slices.Clone(l))
			return
		}
		for i := n; i < len(l); i++ {
			l[n], l[i] = l[i], l[n]
			from(n + 1)
			l[n], l[i] = l[i], l[n]
		}
	}
	from(0)
}
