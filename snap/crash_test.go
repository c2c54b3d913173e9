package snap_test

import (
	"slices"
	"testing"

	"quartermaster/api"
	"quartermaster/disk"
	"quartermaster/snap"
)

// hurts are what may become of a sector.
func hurts(a int) []api.Fault {
	return []api.Fault{lose(a), blank(a), rot(a, 0), rot(a, 100), rot(a, 254)}
}

// choices are all ways to hurt so many shares of n or fewer, as bits of a number.
func choices(n, most int) []int {
	var l []int
	for choice := range 1 << n {
		count := 0
		for i := range n {
			count += choice >> i & 1
		}
		if count <= most {
			l = append(l, choice)
		}
	}
	return l
}

// hurt hurts those shares of a stripe that a choice has, each in its own way.
func hurt(t *testing.T, d *disk.Disk, g api.Geo, area, n, choice, way int) {
	t.Helper()
	for i := range g.K + g.M {
		if choice>>i&1 == 1 {
			fault(t, d, hurts(at(g, area, n, i))[(way+i)%5])
		}
	}
}

// P12.4: each choice of which shares are hurt in which way, in one stripe: with K left
// what was written is read, with fewer it is told that too much is damaged.
func TestEachWayToHurtAStripe(t *testing.T) {
	for area := range 2 {
		b := content(456)
		whole := with(t, small(), area, b)
		for choice := range 6 * 6 * 6 {
			d, left := whole.Copy(), 0
			for i, rest := 0, choice; i < 3; i, rest = i+1, rest/6 {
				if rest%6 == 5 {
					left++
				} else {
					fault(t, d, hurts(at(small(), area, 0, i))[rest%6])
				}
			}
			if left >= 2 {
				reads(t, d, small(), area, 3, b)
			} else {
				tooMuch(t, d, small(), area, 3, 0)
			}
		}
	}
}

// P12.4: each choice of hurt shares of each stripe, with K left in each of them.
func TestWhatIsBorneIsRead(t *testing.T) {
	for _, g := range []api.Geo{{Wal: 8, Stripes: 2, K: 2, M: 2}, {Wal: 8, Stripes: 2, K: 3, M: 1}, {Wal: 9, Stripes: 3, K: 1, M: 1}} {
		borne := choices(g.K+g.M, g.M)
		b := content(room(g) - 5)
		whole := with(t, g, 1, b)
		all := 1
		for range g.Stripes {
			all *= len(borne)
		}
		for choice := range all {
			d := whole.Copy()
			for n, rest := 0, choice; n < g.Stripes; n, rest = n+1, rest/len(borne) {
				hurt(t, d, g, 1, n, borne[rest%len(borne)], choice+n)
			}
			reads(t, d, g, 1, 3, b)
		}
	}
}

// P12.4: with one share fewer than K left in one stripe, whatever is left of the others,
// it is told that too much is damaged; by the first such stripe.
func TestWhatIsNotBorneIsTold(t *testing.T) {
	g := wide()
	borne, b := choices(5, 2), content(room(g))
	whole := with(t, g, 0, b)
	for _, choice := range choices(5, 5) {
		if slices.Contains(borne, choice) {
			continue
		}
		for n := range 3 {
			d := whole.Copy()
			for other := range 3 {
				if other < n {
					hurt(t, d, g, 0, other, borne[(choice+7*other)%len(borne)], choice)
				} else if other > n {
					hurt(t, d, g, 0, other, (choice+5*other)%32, choice)
				}
			}
			hurt(t, d, g, 0, n, choice, choice+n)
			tooMuch(t, d, g, 0, 3, n)
		}
	}
}

// P12.4: the greatest snapshot, with as much hurt as is borne, and a share more.
func TestTheGreatest(t *testing.T) {
	g, r := api.Geo{Wal: 512, Stripes: 32, K: 16, M: 8}, mixed(5)
	b := someBytes(r, room(g))
	d := device(t, g)
	write(t, d, volume, g, 1, 5, 3, b, api.OK, 2*768)
	var more []int // a share of each stripe that is left
	for n := range 32 {
		lost := r.Perm(24)
		for _, i := range lost[:8] {
			fault(t, d, hurts(at(g, 1, n, i))[r.IntN(5)])
		}
		more = append(more, lost[8])
	}
	reads(t, d, g, 1, 3, b)
	for _, n := range []int{31, 17, 0} {
		fault(t, d, lose(at(g, 1, n, more[n])))
		tooMuch(t, d, g, 1, 3, n)
	}
}

// P12.4: what rots does so wherever it rots.
func TestRotAtEachPlace(t *testing.T) {
	b := content(300)
	whole := with(t, small(), 0, b)
	for off := range 256 {
		for i := range 3 {
			d := whole.Copy()
			fault(t, d, rot(at(small(), 0, 0, i), off))
			reads(t, d, small(), 0, 3, b)
			fault(t, d, rot(at(small(), 0, 0, (i+1)%3), 255-off))
			tooMuch(t, d, small(), 0, 3, 0)
		}
	}
}

// keepings are choices of what waits at a crash.
func keepings() [][]bool {
	return [][]bool{nil, {false}, {true}, {true, false}, {false, true}}
}

// there is how many sectors of a Write that was armed for so many are there behind a
// crash: each one that was flushed, and the one that waits, if it is kept.
func there(until int, keeps []bool) int {
	if len(keeps) > 0 && keeps[0] {
		return (until + 1) / 2
	}
	return until / 2
}

// isThere looks at a snapshot of which the sectors from first on, ahead of end, are
// there: it is read, if K of each stripe are, else too much is damaged.
func isThere(t *testing.T, d *disk.Disk, g api.Geo, area, no int, b []byte, first, end int) {
	t.Helper()
	for n := range g.Stripes {
		left := 0
		for i := range g.K + g.M {
			if place := n*(g.K+g.M) + i; place >= first && place < end {
				left++
			}
		}
		if left < g.K {
			tooMuch(t, d, g, area, no, n)
			return
		}
	}
	reads(t, d, g, area, no, b)
}

// P12.4: a Write that a crash cuts off at each of its operations, with each choice of what
// waits kept: in its area what was there is read as long as K of its shares are left in
// each stripe, and what was on its way as soon as they are there; the other area's is read
// as ever.
func TestCrashInTheMidst(t *testing.T) {
	for _, g := range []api.Geo{small(), wide()} {
		for area := range 2 {
			old, next, other := content(room(g)), content(room(g) - 300)[1:], content(200)
			whole := with(t, g, area, old)
			write(t, whole, volume, g, 1-area, 5, 2, other, api.OK, 2*count(g))
			for until := range 2 * count(g) {
				for _, keeps := range keepings() {
					d := whole.Copy()
					d.Arm(until)
					write(t, d, volume, g, area, 6, 4, next, api.ErrDead, until/2+(until+1)/2)
					d.Crash(keeps)
					n := there(until, keeps)
					isThere(t, d, g, area, 4, next, 0, n)
					isThere(t, d, g, area, 3, old, n, count(g))
					reads(t, d, g, 1-area, 2, other)
					tooMuch(t, d, g, 1-area, 4, 0)
					write(t, d, volume, g, area, 6, 4, next, api.OK, 2*count(g))
					reads(t, d, g, area, 4, next)
					reads(t, d, g, 1-area, 2, other)
				}
			}
		}
	}
}

// P12.4: the first Write of all leaves nothing to read, or it.
func TestCrashInTheFirstWrite(t *testing.T) {
	g, b := wide(), content(2000)
	for until := range 2 * count(g) {
		for _, keeps := range keepings() {
			d := device(t, g)
			d.Arm(until)
			write(t, d, volume, g, 0, 5, 3, b, api.ErrDead, until/2+(until+1)/2)
			d.Crash(keeps)
			isThere(t, d, g, 0, 3, b, 0, there(until, keeps))
			tooMuch(t, d, g, 1, 3, 0)
		}
	}
}

// P12.4: the same where writes are dropped or misled, as far as they are borne: the other
// area's snapshot is read as ever, and another Write is read.
func TestCrashAmongDropsAndMisses(t *testing.T) {
	g, old, next, other := small(), content(456), content(300)[1:], content(200)
	whole := with(t, g, 1, old)
	write(t, whole, volume, g, 0, 5, 2, other, api.OK, 6)
	for i := range 3 {
		a := at(g, 1, 0, i)
		for n := 1; n < 4; n++ {
			for _, f := range []api.Fault{drop(a, 1), miss(a, 2), miss(a, 20+i)} {
				for until := range 6 + 2*n {
					d := whole.Copy()
					fault(t, d, slices.Repeat([]api.Fault{f}, n)...)
					d.Arm(until)
					if err := snap.Write(d, volume, g, 1, 5, 4, next); err != api.ErrDead {
						t.Errorf("Write: %d", err)
					}
					d.Crash([]bool{until%3 == 0})
					reads(t, d, g, 0, 2, other)
					if err := snap.Write(d, volume, g, 1, 5, 4, next); err != api.OK {
						t.Errorf("Write: %d", err)
					}
					reads(t, d, g, 1, 4, next)
					reads(t, d, g, 0, 2, other)
				}
			}
		}
	}
}

// P12.4: what was written wholly is there behind a crash, whatever is kept; and so are
// both areas', one behind the other.
func TestCrashBehindAWrite(t *testing.T) {
	g := wide()
	for _, keeps := range keepings() {
		d := device(t, g)
		for no := range 6 {
			b := content(1000 + 200*no)
			d.Arm(2 * count(g))
			write(t, d, volume, g, no%2, 0, no, b, api.OK, 2*count(g))
			write(t, d, volume, g, no%2, 0, no, b, api.ErrDead, 0)
			d.Crash(keeps)
			reads(t, d, g, no%2, no, b)
			if no > 0 {
				reads(t, d, g, 1-no%2, no-1, content(1000+200*(no-1)))
			}
		}
	}
}
