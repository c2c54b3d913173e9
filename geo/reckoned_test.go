package geo_test

import (
	"math"
	"math/rand/v2"
	"slices"
	"testing"

	"quartermaster/api"
	"quartermaster/geo"
)

// spot is where a sector belongs: its group, and which of that one's members it is.
type spot struct{ group, place int }

// layout is what the words of the chapter make of a geometry.
type layout struct {
	members [][]int // group by group
	bears   []int   // likewise
	spots   []spot  // sector by sector
}

// reckon lays a geometry that may be, sector by sector, as they stand in order.
func reckon(g api.Geo) layout {
	groups := 1 + g.Wal + 2*g.Stripes
	l := layout{members: make([][]int, groups), bears: make([]int, groups)}
	next := func(group, bears int) {
		l.spots = append(l.spots, spot{group, len(l.members[group])})
		l.members[group] = append(l.members[group], len(l.spots)-1)
		l.bears[group] = bears
	}
	for range 4 {
		next(0, 3)
	}
	for range 2 { // mirrors
		for slot := range g.Wal {
			next(1+slot, 1)
		}
	}
	group := 1 + g.Wal
	for range 2 { // areas
		for range g.Stripes {
			for range g.K + g.M {
				next(group, g.M)
			}
			group++
		}
	}
	return l
}

// mayBe tells whether a geometry may be, by the words of the chapter.
func mayBe(g api.Geo) bool {
	each := g.Wal >= 8 && g.Wal <= 512 && g.Stripes >= 1 && g.Stripes <= 32 && g.K >= 1 && g.K <= 16 && g.M >= 1 && g.M <= 8
	return each && 4+2*g.Wal+2*g.Stripes*(g.K+g.M) <= 4096
}

// greatest is the geometry of the most sectors: each of its numbers is at its top.
func greatest() api.Geo { return api.Geo{Wal: 512, Stripes: 32, K: 16, M: 8} }

// example is the chapter's.
func example() api.Geo { return api.Geo{Wal: 8, Stripes: 1, K: 2, M: 1} }

// some are geometries that may be: at all edges together, and mixed ones.
func some() []api.Geo {
	var l []api.Geo
	for _, wal := range []int{8, 9, 100, 511, 512} {
		for _, stripes := range []int{1, 2, 31, 32} {
			for _, k := range []int{1, 2, 15, 16} {
				for _, m := range []int{1, 2, 7, 8} {
					l = append(l, api.Geo{Wal: wal, Stripes: stripes, K: k, M: m})
				}
			}
		}
	}
	r := rand.New(rand.NewPCG(8, 7))
	for range 200 {
		l = append(l, api.Geo{Wal: 8 + r.IntN(505), Stripes: 1 + r.IntN(32), K: 1 + r.IntN(16), M: 1 + r.IntN(8)})
	}
	return l
}

// fields are the numbers of a geometry, each with its least and its most.
func fields() []field {
	return []field{
		{"Wal", 8, 512, func(g *api.Geo) *int { return &g.Wal }},
		{"Stripes", 1, 32, func(g *api.Geo) *int { return &g.Stripes }},
		{"K", 1, 16, func(g *api.Geo) *int { return &g.K }},
		{"M", 1, 8, func(g *api.Geo) *int { return &g.M }},
	}
}

type field struct {
	name        string
	least, most int
	of          func(g *api.Geo) *int
}

// wrong are numbers that the field may not have: about its edges, below nought,
// the greatest and the least one there is, and such as look right when bits of
// them, or their sign, are lost.
func (f field) wrong() []int {
	l := []int{f.least - 1, f.most + 1, 0, -1, -2, -f.least, -f.most, f.most * 2, 1 << 20, 1 << 31, 1 << 62, math.MaxInt, math.MaxInt - 1, math.MinInt, math.MinInt + 1}
	for _, lost := range []int{1 << 8, 1 << 16, 1 << 32, 1 << 61, 1 << 62, math.MinInt} {
		l = append(l, lost+f.least, lost+f.most)
	}
	return slices.DeleteFunc(l, func(n int) bool { return n >= f.least && n <= f.most })
}

// none are geometries that may not be: each number wrong alone, beside others
// that may be, and all of them wrong.
func none() []api.Geo {
	l := []api.Geo{{}, {Wal: -8, Stripes: -1, K: -2, M: -1}}
	for _, right := range []api.Geo{example(), greatest(), {Wal: 8, Stripes: 1, K: 1, M: 1}, {Wal: 100, Stripes: 7, K: 6, M: 3}} {
		for _, f := range fields() {
			for _, n := range f.wrong() {
				g := right
				*f.of(&g) = n
				l = append(l, g)
			}
		}
	}
	for _, n := range ints() {
		l = append(l, api.Geo{Wal: n, Stripes: n, K: n, M: n})
	}
	return slices.DeleteFunc(l, func(g api.Geo) bool { return g == api.Geo{Wal: 8, Stripes: 8, K: 8, M: 8} })
}

// ints are numbers of all sizes.
func ints() []int {
	return []int{0, 1, -1, 2, 3, 4, 5, 7, 8, 9, 11, 12, 13, 25, 26, 255, 512, 513, 2563, 2564, 4095, 4096, 4097, 1 << 31, 1 << 32, 1<<32 + 1, -1 << 32, 1 << 62, math.MaxInt - 1, math.MaxInt, math.MinInt, math.MinInt + 1}
}

// where holds what is answered of one sector against what it should be.
func where(t *testing.T, g api.Geo, a int, want spot, wantErr api.Errno) {
	t.Helper()
	if group, place, err := geo.Where(g, a); (spot{group, place}) != want || err != wantErr {
		t.Errorf("Where(%v, %d) = %d, %d, %d, not %d, %d, %d", g, a, group, place, err, want.group, want.place, wantErr)
	}
}

// group holds what is answered of one group against what it should be.
func group(t *testing.T, g api.Geo, i int, want []int, bears int) {
	t.Helper()
	if l := geo.Members(g, i); !slices.Equal(l, want) {
		t.Errorf("Members(%v, %d) = %v, not %v", g, i, l, want)
	}
	if n := geo.Bears(g, i); n != bears {
		t.Errorf("Bears(%v, %d) = %d, not %d", g, i, n, bears)
	}
}

// to are the numbers from first to last.
func to(first, last int) []int {
	var l []int
	for n := first; n <= last; n++ {
		l = append(l, n)
	}
	return l
}
