package geo_test

import (
	"math"
	"slices"
	"testing"

	"quartermaster/api"
	"quartermaster/geo"
)

// P8.1, P8.2, P8.3: the chapter's example, all of it.
func TestExample(t *testing.T) {
	g := example()
	if !geo.May(g) || geo.Sectors(g) != 26 || geo.Groups(g) != 11 || geo.Room(g) != 456 {
		t.Errorf("%v, %d sectors, %d groups, room for %d", geo.May(g), geo.Sectors(g), geo.Groups(g), geo.Room(g))
	}
	group(t, g, 1, []int{4, 12}, 1)
	group(t, g, 9, []int{20, 21, 22}, 1)
	where(t, g, 25, spot{10, 2}, api.OK)
}

// P8.1: each number at its edges, and on both sides of these, beside others at
// their least and at their most.
func TestMayAtEachEdge(t *testing.T) {
	least, most := api.Geo{Wal: 8, Stripes: 1, K: 1, M: 1}, greatest()
	for _, right := range []api.Geo{least, most, example()} {
		for _, f := range fields() {
			for n := f.least - 10; n <= f.most+10; n++ {
				g := right
				*f.of(&g) = n
				if geo.May(g) != (n >= f.least && n <= f.most) {
					t.Errorf("%s of %d, %v: %v", f.name, n, g, geo.May(g))
				}
			}
		}
	}
}

// P8.1: the edges by their numbers.
func TestMayOfEdges(t *testing.T) {
	for _, c := range []struct {
		g   api.Geo
		may bool
	}{
		{api.Geo{Wal: 7, Stripes: 1, K: 1, M: 1}, false},
		{api.Geo{Wal: 8, Stripes: 1, K: 1, M: 1}, true},
		{api.Geo{Wal: 512, Stripes: 1, K: 1, M: 1}, true},
		{api.Geo{Wal: 513, Stripes: 1, K: 1, M: 1}, false},
		{api.Geo{Wal: 8, Stripes: 0, K: 1, M: 1}, false},
		{api.Geo{Wal: 8, Stripes: 32, K: 1, M: 1}, true},
		{api.Geo{Wal: 8, Stripes: 33, K: 1, M: 1}, false},
		{api.Geo{Wal: 8, Stripes: 1, K: 0, M: 1}, false},
		{api.Geo{Wal: 8, Stripes: 1, K: 16, M: 1}, true},
		{api.Geo{Wal: 8, Stripes: 1, K: 17, M: 1}, false},
		{api.Geo{Wal: 8, Stripes: 1, K: 1, M: 0}, false},
		{api.Geo{Wal: 8, Stripes: 1, K: 1, M: 8}, true},
		{api.Geo{Wal: 8, Stripes: 1, K: 1, M: 9}, false},
		{api.Geo{}, false},
	} {
		if geo.May(c.g) != c.may {
			t.Errorf("May(%v) = %v", c.g, !c.may)
		}
	}
}

// P8.1: the geometry of the most sectors has 2564 of them, so that it may be,
// too; there is none whose numbers may be, each alone, and that has 4096 or more.
func TestMayOfTheGreatest(t *testing.T) {
	g := greatest()
	if !geo.May(g) || geo.Sectors(g) != 2564 || geo.Groups(g) != 577 || geo.Room(g) != 116736 {
		t.Errorf("%v, %d sectors, %d groups, room for %d", geo.May(g), geo.Sectors(g), geo.Groups(g), geo.Room(g))
	}
	for _, f := range fields() {
		more := g
		*f.of(&more)++
		if geo.May(more) {
			t.Errorf("%v may be", more)
		}
		less := g
		*f.of(&less)--
		if !geo.May(less) || geo.Sectors(less) >= 2564 {
			t.Errorf("%v: %v, %d sectors", less, geo.May(less), geo.Sectors(less))
		}
	}
}

// P8.1: all geometries that may be, and all that stand beside them.
func TestNumbersOfEachGeometry(t *testing.T) {
	mays := 0
	for wal := 6; wal <= 514; wal++ {
		for stripes := -1; stripes <= 34; stripes++ {
			for k := -1; k <= 18; k++ {
				for m := -1; m <= 10; m++ {
					g := api.Geo{Wal: wal, Stripes: stripes, K: k, M: m}
					sectors, groups, room := 0, 0, 0
					if mayBe(g) {
						mays++
						sectors, groups, room = 4+2*wal+2*stripes*(k+m), 1+wal+2*stripes, stripes*k*228
					}
					if geo.May(g) != mayBe(g) || geo.Sectors(g) != sectors || geo.Groups(g) != groups || geo.Room(g) != room {
						t.Fatalf("%v: %v, %d sectors, %d groups, room for %d, not %v, %d, %d, %d", g, geo.May(g), geo.Sectors(g), geo.Groups(g), geo.Room(g), mayBe(g), sectors, groups, room)
					}
				}
			}
		}
	}
	if mays != 505*32*16*8 {
		t.Errorf("%d geometries may be", mays)
	}
}

// P8.1, P8.2, P8.3, R2, R4: of a geometry that may not be there is nothing, and
// ErrArg is told also of a sector that no geometry has.
func TestOfWhatMayNotBe(t *testing.T) {
	for _, g := range none() {
		if geo.May(g) || geo.Sectors(g) != 0 || geo.Groups(g) != 0 || geo.Room(g) != 0 {
			t.Errorf("%v: %v, %d sectors, %d groups, room for %d", g, geo.May(g), geo.Sectors(g), geo.Groups(g), geo.Room(g))
		}
		for _, n := range ints() {
			group(t, g, n, nil, 0)
			where(t, g, n, spot{}, api.ErrArg)
		}
	}
}

// P8.2: the groups at each edge, of a geometry whose numbers all differ: its
// slots begin at 4 and 13, its areas at 22 and 40, and it has 16 groups.
func TestGroupsAtEachEdge(t *testing.T) {
	g := api.Geo{Wal: 9, Stripes: 3, K: 4, M: 2}
	group(t, g, -1, nil, 0)
	group(t, g, 0, []int{0, 1, 2, 3}, 3)
	group(t, g, 1, []int{4, 13}, 1)
	group(t, g, 2, []int{5, 14}, 1)
	group(t, g, 9, []int{12, 21}, 1)                  // Wal
	group(t, g, 10, []int{22, 23, 24, 25, 26, 27}, 2) // Wal + 1
	group(t, g, 11, []int{28, 29, 30, 31, 32, 33}, 2)
	group(t, g, 12, []int{34, 35, 36, 37, 38, 39}, 2) // Wal + Stripes
	group(t, g, 13, []int{40, 41, 42, 43, 44, 45}, 2) // Wal + Stripes + 1
	group(t, g, 15, []int{52, 53, 54, 55, 56, 57}, 2) // the last one
	group(t, g, 16, nil, 0)
}

// P8.2: the same of the least and of the greatest numbers.
func TestGroupsAtEachEdgeOfOthers(t *testing.T) {
	group(t, example(), 10, []int{23, 24, 25}, 1)
	group(t, example(), 11, nil, 0)
	least := api.Geo{Wal: 8, Stripes: 1, K: 1, M: 1}
	group(t, least, 8, []int{11, 19}, 1)
	group(t, least, 9, []int{20, 21}, 1)
	group(t, least, 10, []int{22, 23}, 1)
	group(t, least, 11, nil, 0)
	great := greatest()
	group(t, great, 0, []int{0, 1, 2, 3}, 3)
	group(t, great, 512, []int{515, 1027}, 1) // Wal
	group(t, great, 513, to(1028, 1051), 8)   // Wal + 1
	group(t, great, 544, to(1772, 1795), 8)   // Wal + Stripes
	group(t, great, 545, to(1796, 1819), 8)   // Wal + Stripes + 1
	group(t, great, 576, to(2540, 2563), 8)   // the last one
	group(t, great, 577, nil, 0)
	// A stripe bears M of its shares, whether these or the data are more.
	group(t, api.Geo{Wal: 8, Stripes: 1, K: 16, M: 1}, 10, to(37, 53), 1)
	group(t, api.Geo{Wal: 8, Stripes: 1, K: 1, M: 8}, 9, to(20, 28), 8)
}

// P8.3: the sectors at each edge, of the same one.
func TestSectorsAtEachEdge(t *testing.T) {
	g := api.Geo{Wal: 9, Stripes: 3, K: 4, M: 2}
	where(t, g, -1, spot{}, api.ErrNone)
	where(t, g, 0, spot{0, 0}, api.OK)
	where(t, g, 3, spot{0, 3}, api.OK)
	where(t, g, 4, spot{1, 0}, api.OK)
	where(t, g, 12, spot{9, 0}, api.OK) // the last slot of mirror 0
	where(t, g, 13, spot{1, 1}, api.OK)
	where(t, g, 21, spot{9, 1}, api.OK)  // the last slot of mirror 1
	where(t, g, 22, spot{10, 0}, api.OK) // the first sector of area 0
	where(t, g, 27, spot{10, 5}, api.OK)
	where(t, g, 28, spot{11, 0}, api.OK)
	where(t, g, 39, spot{12, 5}, api.OK) // the last one of area 0
	where(t, g, 40, spot{13, 0}, api.OK) // the first one of area 1
	where(t, g, 57, spot{15, 5}, api.OK) // the last one
	where(t, g, 58, spot{}, api.ErrNone)
	where(t, example(), 26, spot{}, api.ErrNone)
	where(t, greatest(), 515, spot{512, 0}, api.OK)
	where(t, greatest(), 1027, spot{512, 1}, api.OK)
	where(t, greatest(), 1028, spot{513, 0}, api.OK)
	where(t, greatest(), 1795, spot{544, 23}, api.OK)
	where(t, greatest(), 1796, spot{545, 0}, api.OK)
	where(t, greatest(), 2563, spot{576, 23}, api.OK)
	where(t, greatest(), 2564, spot{}, api.ErrNone)
}

// P8.2, P8.3, R4: groups and sectors that no geometry has, up to the greatest
// number there is, and down to the least one.
func TestOfWhatThereIsNot(t *testing.T) {
	for _, g := range some() {
		for _, n := range []int{-1, -2, -4, -512, -513, 1 << 31, 1 << 32, 1<<32 + 1, 1<<62 + 4, math.MaxInt - 1, math.MaxInt, math.MinInt, math.MinInt + 1, math.MinInt + 20} {
			group(t, g, n, nil, 0)
			where(t, g, n, spot{}, api.ErrNone)
		}
		for n := range 10 {
			group(t, g, geo.Groups(g)+n, nil, 0)
			where(t, g, geo.Sectors(g)+n, spot{}, api.ErrNone)
		}
		where(t, g, 4096, spot{}, api.ErrNone)
	}
}

// P8.1, P8.2, P8.3: each group and each sector, as the chapter's words lay them
// one behind the other.
func TestAsReckoned(t *testing.T) {
	for _, g := range some() {
		l := reckon(g)
		if geo.Sectors(g) != len(l.spots) || geo.Groups(g) != len(l.members) {
			t.Fatalf("%v: %d sectors, %d groups, not %d, %d", g, geo.Sectors(g), geo.Groups(g), len(l.spots), len(l.members))
		}
		for i := range l.members {
			group(t, g, i, l.members[i], l.bears[i])
		}
		for a := range l.spots {
			where(t, g, a, l.spots[a], api.OK)
		}
	}
}

// P8.4: each sector is a member of just one group, once, and Where tells that
// group and that place; members rise, and a group bears fewer than it has.
func TestEachSectorOnce(t *testing.T) {
	for _, g := range some() {
		found := make([]int, geo.Sectors(g))
		for i := range geo.Groups(g) {
			l := geo.Members(g, i)
			for place, a := range l {
				if a < 0 || a >= len(found) {
					t.Fatalf("%v: group %d has %v", g, i, l)
				}
				found[a]++
				where(t, g, a, spot{i, place}, api.OK)
			}
			if !slices.IsSorted(l) || geo.Bears(g, i) < 1 || geo.Bears(g, i) >= len(l) {
				t.Errorf("%v: group %d has %v, and bears %d", g, i, l, geo.Bears(g, i))
			}
		}
		for a, times := range found {
			if times != 1 {
				t.Errorf("%v: sector %d is a member %d times", g, a, times)
			}
		}
	}
}

// P8.4, R3: what is answered may be turned, and lengthened, by who asked:
// nothing that was, or is, answered beside it changes by that.
func TestMembersAreTheCallers(t *testing.T) {
	for _, g := range []api.Geo{example(), greatest(), {Wal: 9, Stripes: 3, K: 4, M: 2}} {
		l := reckon(g)
		ahead := make([][]int, geo.Groups(g))
		for i := range ahead {
			ahead[i] = geo.Members(g, i)
		}
		for i := range ahead {
			turned := geo.Members(g, i)
			_ = append(turned, -1, -1)
			for place := range turned {
				turned[place] = -7
			}
			_ = append(turned[:0], -9)
		}
		for i := range ahead {
			group(t, g, i, l.members[i], l.bears[i])
			if !slices.Equal(ahead[i], l.members[i]) {
				t.Errorf("%v: group %d, as it was answered ahead, is %v then", g, i, ahead[i])
			}
		}
		for a := range l.spots {
			where(t, g, a, l.spots[a], api.OK)
		}
	}
}

// R5: an answer does not hang on what was asked ahead of it.
func TestAnswersHangOnNothingElse(t *testing.T) {
	small, great := reckon(example()), reckon(greatest())
	for i := range ints() {
		n := ints()[i]
		geo.Members(greatest(), n)
		geo.Where(api.Geo{}, n)
		geo.Bears(greatest(), n)
		group(t, example(), 9, small.members[9], 1)
		geo.Where(greatest(), n)
		where(t, example(), 25, small.spots[25], api.OK)
		geo.Members(api.Geo{Wal: n}, n)
		group(t, greatest(), 513, great.members[513], 8)
	}
}

// P1, R1: each call ends, whatever it is given, and none panics.
func TestAnyArguments(t *testing.T) {
	ns := []int{0, 1, -1, 7, 8, 9, 16, 17, 32, 33, 512, 513, 1 << 32, 1 << 62, math.MaxInt, math.MinInt}
	for _, wal := range ns {
		for _, stripes := range ns {
			for _, k := range ns {
				for _, m := range ns {
					g := api.Geo{Wal: wal, Stripes: stripes, K: k, M: m}
					may := geo.May(g)
					if may != mayBe(g) || (geo.Sectors(g) > 0) != may || (geo.Groups(g) > 0) != may || (geo.Room(g) > 0) != may {
						t.Fatalf("%v: %v, %d sectors, %d groups, room for %d", g, may, geo.Sectors(g), geo.Groups(g), geo.Room(g))
					}
					for _, n := range []int{0, -1, 4, 21, math.MaxInt, math.MinInt} {
						if group, place, err := geo.Where(g, n); err != api.OK && (group != 0 || place != 0) || (err == api.ErrArg) == may {
							t.Fatalf("Where(%v, %d) = %d, %d, %d", g, n, group, place, err)
						}
						if l := geo.Members(g, n); (len(l) > 0) != (geo.Bears(g, n) > 0) || !may && len(l) > 0 {
							t.Fatalf("Members(%v, %d) = %v, and it bears %d", g, n, l, geo.Bears(g, n))
						}
					}
				}
			}
		}
	}
}
