package keep_test

import (
	"bytes"
	"math"
	"slices"
	"strconv"
	"testing"

	"quartermaster/api"
	"quartermaster/disk"
	"quartermaster/keep"
)

// full is a sector of one byte all over.
func full(b byte) []byte { return bytes.Repeat([]byte{b}, api.Sector) }

func put(a int, b byte) api.Put { return api.Put{At: a, S: full(b)} }

// old is what the sector a of a device has at first.
func old(a int) []byte { return full(byte(100 + a)) }

// device is one of n sectors that differ; nothing waits.
func device(t *testing.T, n int) *disk.Disk {
	t.Helper()
	d, err := disk.New(n)
	if err != api.OK {
		t.Fatalf("New(%d): %d", n, err)
	}
	for a := range n {
		write(t, d, a, old(a))
	}
	if err := d.Flush(); err != api.OK {
		t.Fatalf("Flush(): %d", err)
	}
	return d
}

// killed is a device that is dead.
func killed(t *testing.T, n int) *disk.Disk {
	t.Helper()
	d := device(t, n)
	d.Arm(0)
	if err := d.Flush(); err != api.ErrDead {
		t.Fatalf("it did not die: %d", err)
	}
	return d
}

func write(t *testing.T, d *disk.Disk, a int, s []byte) {
	t.Helper()
	if err := d.Write(a, s); err != api.OK {
		t.Fatalf("Write(%d): %d", a, err)
	}
}

func fault(t *testing.T, d *disk.Disk, l ...api.Fault) {
	t.Helper()
	for _, f := range l {
		if err := d.Fault(f); err != api.OK {
			t.Fatalf("Fault(%v): %d", f, err)
		}
	}
}

func drop(a, n int) api.Fault  { return api.Fault{Kind: api.FaultDrop, At: a, N: n} }
func miss(a, to int) api.Fault { return api.Fault{Kind: api.FaultMiss, At: a, To: to} }
func lose(a int) api.Fault     { return api.Fault{Kind: api.FaultLose, At: a} }
func blank(a int) api.Fault    { return api.Fault{Kind: api.FaultBlank, At: a} }

// rot changes one byte.
func rot(a, off int) api.Fault {
	return api.Fault{Kind: api.FaultRot, At: a, Off: off, Mask: [4]byte{1}}
}

// brief is the first byte of bytes that are the same all over, or how many there are.
func brief(s []byte) string {
	if len(s) == api.Sector && bytes.Equal(s, full(s[0])) {
		return "all " + strconv.Itoa(int(s[0]))
	}
	return strconv.Itoa(len(s)) + " bytes, not all the same"
}

// has looks at what a sector has, and at what it would have behind a crash that
// keeps nothing.
func has(t *testing.T, d *disk.Disk, a int, want []byte) {
	t.Helper()
	for range 2 {
		if s, err := d.Read(a); err != api.OK || !bytes.Equal(s, want) {
			t.Errorf("the sector %d has %s (%d), not %s", a, brief(s), err, brief(want))
		}
		d = d.Copy()
		d.Crash(nil)
	}
}

// hasBehind looks at what a sector of a device, which may be dead, has behind a
// crash that keeps nothing, or all.
func hasBehind(t *testing.T, d *disk.Disk, keeps bool, a int, want []byte) {
	t.Helper()
	c := d.Copy()
	c.Crash([]bool{keeps})
	if s, err := c.Read(a); err != api.OK || !bytes.Equal(s, want) {
		t.Errorf("behind a crash (%v) the sector %d has %s (%d), not %s", keeps, a, brief(s), err, brief(want))
	}
}

// isLost looks at a sector that can't be read.
func isLost(t *testing.T, d *disk.Disk, a int) {
	t.Helper()
	if s, err := d.Read(a); err != api.ErrBad {
		t.Errorf("the sector %d has %s (%d), and is not lost", a, brief(s), err)
	}
}

// untouched looks at all sectors of a device that was none of the wrong ones.
func untouched(t *testing.T, d *disk.Disk) {
	t.Helper()
	for a := range d.Len() {
		hasBehind(t, d, true, a, old(a))
	}
}

// one, all and mend call what is to be tested, and look at what it answers and
// at how many reads and writes that took.
func one(t *testing.T, d *disk.Disk, p api.Put, want api.Errno, ops int) {
	t.Helper()
	before := d.Ops()
	err := keep.One(d, p)
	if took := d.Ops() - before; err != want || took != ops {
		t.Errorf("One(%d, %s): %d by %d reads and writes, not %d by %d", p.At, brief(p.S), err, took, want, ops)
	}
}

func all(t *testing.T, d *disk.Disk, l []api.Put, want api.Errno, ops int) {
	t.Helper()
	before := d.Ops()
	err := keep.All(d, l)
	if took := d.Ops() - before; err != want || took != ops {
		t.Errorf("All of %d: %d by %d reads and writes, not %d by %d", len(l), err, took, want, ops)
	}
}

func mend(t *testing.T, d *disk.Disk, l []api.Put, written int, want api.Errno, ops int) {
	t.Helper()
	before := d.Ops()
	n, err := keep.Mend(d, l)
	if took := d.Ops() - before; n != written || err != want || took != ops {
		t.Errorf("Mend of %d: %d, %d by %d reads and writes, not %d, %d by %d", len(l), n, err, took, written, want, ops)
	}
}

// noPlaces are numbers of no sector of a device that has n.
func noPlaces(n int) []int { return []int{-1, n, n + 1, -n, math.MaxInt, math.MinInt} }

// noSectors are bytes that no sector has.
func noSectors() [][]byte {
	return [][]byte{nil, {}, full(1)[1:], append(full(1), 1), append(full(1), full(1)...)}
}

// P9.1: the chapter's examples.
func TestExamples(t *testing.T) {
	d := device(t, 1)
	fault(t, d, drop(0, 3))
	one(t, d, put(0, 1), api.OK, 8)
	has(t, d, 0, full(1))

	d = device(t, 1)
	fault(t, d, drop(0, 4))
	one(t, d, put(0, 1), api.ErrDamaged, 8)
	has(t, d, 0, old(0))
}

// P9.1: where nothing goes wrong, one write and one read do, whatever the sector
// had, also where that is what it should have.
func TestOne(t *testing.T) {
	d := device(t, 3)
	one(t, d, put(1, 1), api.OK, 2)
	has(t, d, 1, full(1))
	one(t, d, put(1, 1), api.OK, 2)
	has(t, d, 1, full(1))
	one(t, d, put(1, 0), api.OK, 2)
	has(t, d, 1, full(0))
	has(t, d, 0, old(0))
	has(t, d, 2, old(2))
}

// P9.1, P9.3: of 0 to 5 writes, one behind the other, that are dropped, misled, or
// some of each, up to 3 are borne; the 4th is the last try, and what is to go
// wrong behind it is still to come.
func TestOneAmongDropsAndMisses(t *testing.T) {
	for wrong := range 6 {
		for drops := range wrong + 1 {
			d := device(t, 6)
			for i := range wrong - drops {
				fault(t, d, miss(0, i+1))
			}
			fault(t, d, slices.Repeat([]api.Fault{drop(0, 1)}, drops)...)
			tries := min(wrong+1, 4)
			if wrong <= 3 {
				one(t, d, put(0, 1), api.OK, 2*tries)
				has(t, d, 0, full(1))
			} else {
				one(t, d, put(0, 1), api.ErrDamaged, 2*tries)
				has(t, d, 0, old(0))
			}
			misled := max(0, min(wrong, 4)-drops)
			for a := 1; a < 6; a++ {
				want := old(a)
				if a <= misled {
					want = full(1)
				}
				has(t, d, a, want)
			}
			one(t, d, put(0, 2), api.OK, 2+2*(wrong-min(wrong, 4)))
			has(t, d, 0, full(2))
		}
	}
}

// P9.1: a write that is misled to its own sector is as good as any.
func TestOneMisledToItsOwn(t *testing.T) {
	for _, c := range []struct {
		wrong []api.Fault
		err   api.Errno
		tries int
		next  int // tries of the next One
	}{
		{[]api.Fault{miss(0, 0)}, api.OK, 1, 1},
		{[]api.Fault{miss(0, 0), miss(0, 0), miss(0, 0)}, api.OK, 1, 1},
		{[]api.Fault{miss(0, 0), miss(0, 1)}, api.OK, 1, 2},
		{[]api.Fault{miss(0, 1), miss(0, 2), miss(0, 0), miss(0, 1)}, api.OK, 3, 2},
		{[]api.Fault{miss(0, 1), miss(0, 1), miss(0, 1), miss(0, 0)}, api.OK, 4, 1},
		{[]api.Fault{miss(0, 1), miss(0, 1), miss(0, 1), miss(0, 1), miss(0, 0)}, api.ErrDamaged, 4, 1},
		{[]api.Fault{miss(0, 0), drop(0, 3)}, api.OK, 4, 1},
		{[]api.Fault{miss(0, 0), drop(0, 4)}, api.ErrDamaged, 4, 1},
	} {
		d := device(t, 3)
		fault(t, d, c.wrong...)
		one(t, d, put(0, 1), c.err, 2*c.tries)
		if c.err == api.OK {
			has(t, d, 0, full(1))
		} else {
			has(t, d, 0, old(0))
		}
		one(t, d, put(0, 2), api.OK, 2*c.next)
		has(t, d, 0, full(2))
	}
}

// P9.1: what is wrong with a sector ahead of the write is over then; that it
// can't be read, as the write was dropped, is no error, but one more try.
func TestOneOfHurtSectors(t *testing.T) {
	for _, hurt := range [][]api.Fault{{lose(1)}, {blank(1)}, {rot(1, 0)}, {rot(1, 255)}, {rot(1, 5), lose(1)}, {lose(1), rot(1, 7)}} {
		for drops := range 5 {
			d := device(t, 3)
			fault(t, d, hurt...)
			fault(t, d, slices.Repeat([]api.Fault{drop(1, 1)}, drops)...)
			ahead := d.Copy()
			if drops <= 3 {
				one(t, d, put(1, 1), api.OK, 2*drops+2)
				has(t, d, 1, full(1))
			} else {
				one(t, d, put(1, 1), api.ErrDamaged, 8)
				if s, err := ahead.Read(1); err == api.OK {
					has(t, d, 1, s)
				} else {
					isLost(t, d, 1)
				}
			}
			has(t, d, 0, old(0))
			has(t, d, 2, old(2))
		}
	}
}

// P9.1: a write that is misled hurts no sector that is lost, but heals it.
func TestOneMisledToALostSector(t *testing.T) {
	d := device(t, 2)
	fault(t, d, lose(0), lose(1), miss(0, 1))
	one(t, d, put(0, 1), api.OK, 4)
	has(t, d, 0, full(1))
	has(t, d, 1, full(1))
}

// P9.1: each sector may be written, the first and the last one, too; of others
// the device's error is handed on, and nothing is done.
func TestOneOfEachPlace(t *testing.T) {
	for _, n := range []int{1, 2, 7} {
		for a := range n {
			d := device(t, n)
			one(t, d, put(a, 1), api.OK, 2)
			has(t, d, a, full(1))
		}
		for _, a := range noPlaces(n) {
			d := device(t, n)
			one(t, d, put(a, 1), api.ErrNone, 0)
			untouched(t, d)
		}
	}
	d := device(t, api.MaxSectors)
	one(t, d, put(api.MaxSectors-1, 1), api.OK, 2)
	one(t, d, put(api.MaxSectors, 1), api.ErrNone, 0)
	has(t, d, api.MaxSectors-1, full(1))
}

// P9.1: of what is no sector's bytes the device's error is handed on, and nothing
// is done; what is to go wrong still is to come.
func TestOneOfWrongBytes(t *testing.T) {
	for _, s := range noSectors() {
		d := device(t, 2)
		fault(t, d, drop(1, 1))
		one(t, d, api.Put{At: 1, S: s}, api.ErrArg, 0)
		untouched(t, d)
		one(t, d, put(1, 1), api.OK, 4)
		fault(t, d, lose(1))
		one(t, d, api.Put{At: 1, S: s}, api.ErrArg, 0)
		isLost(t, d, 1)
		one(t, d, api.Put{At: 2, S: s}, api.ErrNone, 0)
	}
}

// P9.1: what waits is flushed, too, in order: the sector has what One wrote.
func TestOneFlushesWhatWaits(t *testing.T) {
	d := device(t, 3)
	write(t, d, 0, full(9))
	write(t, d, 1, full(8))
	one(t, d, put(1, 1), api.OK, 2)
	has(t, d, 0, full(9))
	has(t, d, 1, full(1))
}

// P9.1: what waits, but is not One's, is read as if it were done: it is looked at
// behind the flush, and is what was to be written, or is not.
func TestOneAmongWhatWaits(t *testing.T) {
	d := device(t, 2)
	write(t, d, 0, full(1))
	fault(t, d, drop(0, 9))
	one(t, d, put(0, 1), api.OK, 2) // dropped, but it was what waits, too
	has(t, d, 0, full(1))
	one(t, d, put(0, 2), api.ErrDamaged, 8)
	has(t, d, 0, full(1))
}

// P9.1: a device that is dead, or none, tells so, ahead of all else; one of no
// sectors has none to write.
func TestOneOfDeadDevices(t *testing.T) {
	for _, p := range []api.Put{put(0, 1), put(-1, 1), put(2, 1), {}, {At: 1, S: full(1)[1:]}} {
		d := killed(t, 2)
		one(t, d, p, api.ErrDead, 0)
		untouched(t, d)
		one(t, nil, p, api.ErrDead, 0)
		one(t, new(disk.Disk), p, api.ErrNone, 0)
	}
}

// dropping is a device that drops some writes of its first sector.
func dropping(t *testing.T, n int) *disk.Disk {
	t.Helper()
	d := device(t, 2)
	fault(t, d, slices.Repeat([]api.Fault{drop(0, 1)}, n)...)
	return d
}

// P9.1: a device that dies at any of One's writes or flushes: that is handed on,
// and nothing is done behind it.
func TestOneDies(t *testing.T) {
	for drops := range 4 {
		for dies := range 2*drops + 2 { // 0, 2, 4.. are writes, 1, 3, 5.. flushes
			d := dropping(t, drops)
			d.Arm(dies)
			one(t, d, put(0, 1), api.ErrDead, dies)
			if !d.Dead() {
				t.Errorf("it is not dead")
			}
			hasBehind(t, d, false, 0, old(0))
			if dies == 2*drops+1 { // then just the flush is missing
				hasBehind(t, d, true, 0, full(1))
			} else {
				hasBehind(t, d, true, 0, old(0))
			}
			hasBehind(t, d, true, 1, old(1))
		}
		d := dropping(t, drops)
		d.Arm(2*drops + 2)
		one(t, d, put(0, 1), api.OK, 2*drops+2)
		has(t, d, 0, full(1))
		one(t, d, put(0, 2), api.ErrDead, 0)
		hasBehind(t, d, true, 0, full(1))
	}
}

// P9.1: a device that is to die behind the fourth flush is not asked a fifth time.
func TestOneTriesNoMore(t *testing.T) {
	d := device(t, 1)
	fault(t, d, drop(0, 5))
	d.Arm(8)
	one(t, d, put(0, 1), api.ErrDamaged, 8)
	if d.Dead() {
		t.Errorf("it is dead")
	}
}

// P9.2, R6: of no writes there is nothing to do, whatever device that is: what
// waits, waits on.
func TestNoWrites(t *testing.T) {
	for _, none := range [][]api.Put{nil, {}, make([]api.Put, 0, 9)} {
		d := device(t, 2)
		write(t, d, 0, full(1))
		d.Arm(0)
		all(t, d, none, api.OK, 0)
		mend(t, d, none, 0, api.OK, 0)
		if d.Dead() {
			t.Errorf("it is dead")
		}
		hasBehind(t, d, false, 0, old(0))
		for _, dead := range []*disk.Disk{nil, {}, killed(t, 2)} {
			all(t, dead, none, api.OK, 0)
			mend(t, dead, none, 0, api.OK, 0)
		}
	}
}

// P9.2: All writes each, in order, also what is there already.
func TestAll(t *testing.T) {
	d := device(t, 5)
	all(t, d, []api.Put{put(3, 1)}, api.OK, 2)
	has(t, d, 3, full(1))
	all(t, d, []api.Put{put(4, 2), put(0, 3), put(2, 4)}, api.OK, 6)
	all(t, d, []api.Put{put(4, 2), put(0, 3), put(2, 4)}, api.OK, 6)
	for a, want := range [][]byte{full(3), old(1), full(4), full(1), full(2)} {
		has(t, d, a, want)
	}
}

// P9.2: the same sector may come twice: the last one holds.
func TestAllOfTheSameSector(t *testing.T) {
	d := device(t, 2)
	all(t, d, []api.Put{put(0, 1), put(0, 1)}, api.OK, 4)
	has(t, d, 0, full(1))
	all(t, d, []api.Put{put(0, 2), put(1, 3), put(0, 4)}, api.OK, 6)
	has(t, d, 0, full(4))
	has(t, d, 1, full(3))
}

// P9.2, P9.3: each write has four tries of its own.
func TestAllAmongDropsAndMisses(t *testing.T) {
	d := device(t, 6)
	fault(t, d, drop(0, 3), drop(1, 1), miss(1, 4), miss(1, 5), miss(2, 5), lose(2))
	all(t, d, []api.Put{put(0, 1), put(1, 2), put(2, 3)}, api.OK, 8+8+4)
	for a, want := range [][]byte{full(1), full(2), full(3), old(3), full(2), full(3)} {
		has(t, d, a, want)
	}
	fault(t, d, drop(0, 6))
	all(t, d, []api.Put{put(1, 7), put(0, 8), put(0, 9)}, api.ErrDamaged, 2+8)
	all(t, d, []api.Put{put(0, 8), put(0, 9)}, api.OK, 6+2)
	has(t, d, 0, full(9))
}

// P9.2: All looks at each sector behind its own write alone: what a later one of
// another sector hurts, misled, stays so.
func TestAllMisledToAnother(t *testing.T) {
	d := device(t, 2)
	fault(t, d, miss(0, 1), miss(1, 0))
	all(t, d, []api.Put{put(0, 1), put(1, 2)}, api.OK, 8)
	has(t, d, 0, full(2))
	has(t, d, 1, full(2))
	mend(t, d, []api.Put{put(0, 1), put(1, 2)}, 1, api.OK, 4)
	has(t, d, 0, full(1))
}

// wrongs are writes of a device of 6 sectors that have errors, each with what is
// to be done to it ahead, and how many reads and writes All makes of it.
func wrongs() []wrong {
	l := []wrong{{put(4, 1), []api.Fault{drop(4, 4)}, api.ErrDamaged, 8}}
	for _, a := range noPlaces(6) {
		l = append(l, wrong{put(a, 1), nil, api.ErrNone, 0})
	}
	for _, s := range noSectors() {
		l = append(l, wrong{api.Put{At: 4, S: s}, nil, api.ErrArg, 0})
		l = append(l, wrong{api.Put{At: 4, S: s}, []api.Fault{lose(4)}, api.ErrArg, 0})
	}
	return l
}

type wrong struct {
	p      api.Put
	faults []api.Fault
	err    api.Errno
	ops    int
}

// among are writes of which the i-th is p, and the others may be.
func among(i int, p api.Put) []api.Put {
	return slices.Insert([]api.Put{put(0, 10), put(2, 12), put(1, 11), put(3, 13)}, i, p)
}

// P9.2: with an error of the first, of one in the middle, and of the last: what
// is ahead is done, what is behind is not.
func TestAllTillAnError(t *testing.T) {
	for _, w := range wrongs() {
		for i := range 5 {
			d := device(t, 6)
			fault(t, d, w.faults...)
			l := among(i, w.p)
			all(t, d, l, w.err, 2*i+w.ops)
			for _, p := range l[:i] {
				has(t, d, p.At, p.S)
			}
			for _, p := range l[i+1:] {
				has(t, d, p.At, old(p.At))
			}
		}
	}
}

// P9.2: a device that is dead, or none.
func TestAllOfDeadDevices(t *testing.T) {
	l := []api.Put{put(0, 1), put(1, 2)}
	d := killed(t, 2)
	all(t, d, l, api.ErrDead, 0)
	untouched(t, d)
	all(t, nil, l, api.ErrDead, 0)
	all(t, new(disk.Disk), l, api.ErrNone, 0)
}

// P9.2: a device that dies at any of All's writes or flushes: what is ahead stays,
// behind the crash, too; what is behind is not done.
func TestAllDies(t *testing.T) {
	l := []api.Put{put(2, 1), put(0, 2), put(1, 3)}
	for dies := range 2 * len(l) {
		d := device(t, 3)
		d.Arm(dies)
		all(t, d, l, api.ErrDead, dies)
		for i, p := range l {
			done := old(p.At)
			if i < dies/2 {
				done = p.S
			}
			hasBehind(t, d, false, p.At, done)
			if i == dies/2 && dies%2 == 1 { // it waits
				done = p.S
			}
			hasBehind(t, d, true, p.At, done)
		}
	}
	d := device(t, 3)
	d.Arm(2 * len(l))
	all(t, d, l, api.OK, 6)
	for _, p := range l {
		has(t, d, p.At, p.S)
	}
}

// P9.2, P9.3: what has what it should is read, and not written: a device that is
// to die at the next write lives on.
func TestMendWritesNothingThatIsRight(t *testing.T) {
	d := device(t, 3)
	fault(t, d, drop(0, 1), miss(1, 0))
	d.Arm(0)
	l := []api.Put{{At: 1, S: old(1)}, {At: 0, S: old(0)}, {At: 2, S: old(2)}, {At: 1, S: old(1)}}
	mend(t, d, l, 0, api.OK, len(l))
	mend(t, d, l[:1], 0, api.OK, 1)
	if d.Dead() {
		t.Errorf("it is dead")
	}
	untouched(t, d)
	d.Arm(-1)
	one(t, d, put(0, 1), api.OK, 4) // none of the faults was taken
	one(t, d, put(1, 1), api.OK, 4)
}

// P9.2: what a sector has waiting is read as if it were done: that is not
// written, and not flushed, either.
func TestMendOfWhatWaits(t *testing.T) {
	d := device(t, 2)
	write(t, d, 0, full(1))
	mend(t, d, []api.Put{put(0, 1)}, 0, api.OK, 1)
	hasBehind(t, d, false, 0, old(0))
	mend(t, d, []api.Put{{At: 0, S: old(0)}}, 1, api.OK, 3)
	has(t, d, 0, old(0))
	write(t, d, 1, full(2))
	mend(t, d, []api.Put{put(0, 3)}, 1, api.OK, 3)
	has(t, d, 1, full(2))
}

// P9.2: what has other bytes, if only one of them, or can't be read, is written.
func TestMend(t *testing.T) {
	for _, hurt := range [][]api.Fault{{lose(1)}, {blank(1)}, {rot(1, 0)}, {rot(1, 128)}, {rot(1, 255)}, {rot(1, 3), lose(1)}} {
		d := device(t, 3)
		fault(t, d, hurt...)
		l := []api.Put{{At: 0, S: old(0)}, {At: 1, S: old(1)}, {At: 2, S: old(2)}}
		mend(t, d, l, 1, api.OK, 1+3+1)
		untouched(t, d)
		has(t, d, 1, old(1))
		mend(t, d, l, 0, api.OK, 3)
	}
	d := device(t, 3)
	l := []api.Put{put(2, 1), {At: 1, S: old(1)}, put(0, 2)}
	mend(t, d, l, 2, api.OK, 3+1+3)
	has(t, d, 2, full(1))
	has(t, d, 1, old(1))
	has(t, d, 0, full(2))
}

// P9.2: noughts are bytes as others are: of a sector that was never written they
// are what it should have, of one that is lost they are not.
func TestMendOfNoughts(t *testing.T) {
	d, _ := disk.New(2)
	fault(t, d, lose(1))
	l := []api.Put{put(0, 0), put(1, 0)}
	mend(t, d, l, 1, api.OK, 1+3)
	has(t, d, 1, full(0))
	fault(t, d, blank(1))
	mend(t, d, l, 0, api.OK, 2)
}

// P9.2, P9.3: of 0 to 5 writes, one behind the other, that are dropped or misled,
// up to 3 are borne. One that is lost meanwhile can't be read, but that is no error.
func TestMendAmongDropsAndMisses(t *testing.T) {
	for wrong := range 6 {
		for drops := range wrong + 1 {
			for _, lost := range []bool{false, true} {
				d := device(t, 7)
				for i := range wrong - drops {
					fault(t, d, miss(1, i+2))
				}
				fault(t, d, slices.Repeat([]api.Fault{drop(1, 1)}, drops)...)
				if lost {
					fault(t, d, lose(1))
				}
				l := []api.Put{put(0, 1), put(1, 2)}
				switch {
				case wrong <= 3:
					mend(t, d, l, 2, api.OK, 3+1+2*(wrong+1))
					has(t, d, 1, full(2))
				case lost:
					mend(t, d, l, 1, api.ErrDamaged, 3+1+8)
					isLost(t, d, 1)
				default:
					mend(t, d, l, 1, api.ErrDamaged, 3+1+8)
					has(t, d, 1, old(1))
				}
				has(t, d, 0, full(1))
			}
		}
	}
}

// P9.2: the same sector may come twice: the same bytes are there then, others are
// not.
func TestMendOfTheSameSector(t *testing.T) {
	d := device(t, 2)
	mend(t, d, []api.Put{put(0, 1), put(0, 1)}, 1, api.OK, 3+1)
	has(t, d, 0, full(1))
	mend(t, d, []api.Put{put(0, 1), put(0, 2), put(0, 1)}, 2, api.OK, 1+3+3)
	has(t, d, 0, full(1))
}

// P9.2: with an error of the first, of one in the middle, and of the last: what is
// ahead is done, and that is how many were written; what is behind is not.
func TestMendTillAnError(t *testing.T) {
	for _, w := range wrongs() {
		read := 0 // the sector that is wrong is read ahead, if there is one
		if w.err != api.ErrNone {
			read = 1
		}
		for i := range 5 {
			d := device(t, 6)
			fault(t, d, w.faults...)
			l := among(i, w.p)
			mend(t, d, l, i, w.err, 3*i+read+w.ops)
			for _, p := range l[:i] {
				has(t, d, p.At, p.S)
			}
			for _, p := range l[i+1:] {
				has(t, d, p.At, old(p.At))
			}
			mend(t, d, l[:i], 0, api.OK, i)
		}
	}
}

// P9.2: what was right is not among how many were written, also beside an error.
func TestMendTellsWhatWasWritten(t *testing.T) {
	right := func(a int) api.Put { return api.Put{At: a, S: old(a)} }
	for _, c := range []struct {
		l       []api.Put
		written int
		err     api.Errno
		ops     int
	}{
		{[]api.Put{right(0), put(1, 1), right(2), put(-1, 1), put(3, 1)}, 1, api.ErrNone, 1 + 3 + 1},
		{[]api.Put{right(0), right(1), {At: 2}, put(3, 1)}, 0, api.ErrArg, 3},
		{[]api.Put{put(0, 1), put(1, 2), right(2), put(4, 1)}, 2, api.ErrNone, 3 + 3 + 1},
		{[]api.Put{right(0), put(1, 1), right(2), put(3, 1)}, 2, api.OK, 1 + 3 + 1 + 3},
	} {
		d := device(t, 4)
		mend(t, d, c.l, c.written, c.err, c.ops)
	}
}

// P9.2: bytes that no sector has are what no sector has, whether it can be read
// or not; that is told by the write.
func TestMendOfWrongBytes(t *testing.T) {
	for _, s := range noSectors() {
		d := device(t, 2)
		mend(t, d, []api.Put{{At: 0, S: s}}, 0, api.ErrArg, 1)
		untouched(t, d)
		fault(t, d, lose(0))
		mend(t, d, []api.Put{{At: 0, S: s}}, 0, api.ErrArg, 1)
		isLost(t, d, 0)
	}
}

// P9.2: a device that is dead, or none.
func TestMendOfDeadDevices(t *testing.T) {
	for _, l := range [][]api.Put{{put(0, 1), put(1, 2)}, {{At: 0, S: old(0)}}, {put(-1, 1)}, {{}}} {
		d := killed(t, 2)
		mend(t, d, l, 0, api.ErrDead, 0)
		untouched(t, d)
		mend(t, nil, l, 0, api.ErrDead, 0)
		mend(t, new(disk.Disk), l, 0, api.ErrNone, 0)
	}
}

// P9.2: a device that dies at any of Mend's writes or flushes: those ahead are how
// many were written, and stay, behind the crash, too.
func TestMendDies(t *testing.T) {
	l := []api.Put{{At: 3, S: old(3)}, put(2, 1), put(0, 2), {At: 3, S: old(3)}, put(1, 3)}
	opsOf := []int{2, 3, 5, 6, 9, 10} // of those ahead, the read, and the write of the one that dies
	written := []int{1, 2, 4}         // where those are in l that are written
	for dies, ops := range opsOf {
		d := device(t, 4)
		d.Arm(dies)
		mend(t, d, l, dies/2, api.ErrDead, ops)
		for i, at := range written {
			p := l[at]
			done := old(p.At)
			if i < dies/2 {
				done = p.S
			}
			hasBehind(t, d, false, p.At, done)
			if i == dies/2 && dies%2 == 1 { // it waits
				done = p.S
			}
			hasBehind(t, d, true, p.At, done)
		}
		hasBehind(t, d, true, 3, old(3))
		d.Crash(nil)
		mend(t, d, l, 3-dies/2, api.OK, 5+2*(3-dies/2))
	}
	d := device(t, 4)
	d.Arm(6)
	mend(t, d, l, 3, api.OK, 5+6)
}

// P9.3: whatever up to 3 writes do that go wrong, the sector has what was to be
// written, behind a crash with nothing kept, too.
func TestDurable(t *testing.T) {
	for kinds := range 4 * 4 * 4 { // three that go wrong, each of four kinds
		for _, do := range []func(*disk.Disk, api.Put) api.Errno{
			keep.One,
			func(d *disk.Disk, p api.Put) api.Errno { return keep.All(d, []api.Put{p}) },
			func(d *disk.Disk, p api.Put) api.Errno { _, err := keep.Mend(d, []api.Put{p}); return err },
		} {
			d := device(t, 3)
			for _, kind := range []int{kinds % 4, kinds / 4 % 4, kinds / 16} {
				fault(t, d, []api.Fault{drop(0, 1), miss(0, 1), miss(0, 2), lose(0)}[kind])
			}
			if err := do(d, put(0, 1)); err != api.OK {
				t.Errorf("it answered %d", err)
			}
			d.Crash(nil)
			has(t, d, 0, full(1))
		}
	}
}

// P9.3: as long as what was misled hurts others that should have something else,
// some more rounds of Mend make all of them right.
func TestRoundsOfMend(t *testing.T) {
	d := device(t, 3)
	fault(t, d, miss(2, 0), miss(2, 1), miss(1, 0), drop(0, 2), lose(1))
	l := []api.Put{put(0, 1), put(1, 2), put(2, 3)}
	for range 4 {
		if _, err := keep.Mend(d, l); err != api.OK {
			t.Fatalf("Mend: %d", err)
		}
	}
	mend(t, d, l, 0, api.OK, 3)
	for _, p := range l {
		has(t, d, p.At, p.S)
	}
}

// R3: what is handed in stays as it was, what is behind it in its memory, too;
// later changes of it change nothing on the device.
func TestWhatIsHandedInStays(t *testing.T) {
	for _, do := range []func(*disk.Disk, []api.Put){
		func(d *disk.Disk, l []api.Put) { keep.One(d, l[0]) },
		func(d *disk.Disk, l []api.Put) { keep.All(d, l) },
		func(d *disk.Disk, l []api.Put) { keep.Mend(d, l) },
	} {
		memory := append(full(1), full(2)...)
		l := []api.Put{{At: 0, S: memory[:api.Sector]}, {At: 1, S: memory[api.Sector/2:][:api.Sector]}, {At: 2, S: memory[:5]}, put(0, 9)}
		d := device(t, 3)
		fault(t, d, lose(0), drop(1, 2), miss(0, 2))
		do(d, l[:3])
		if !bytes.Equal(memory, append(full(1), full(2)...)) {
			t.Errorf("the bytes are changed")
		}
		for i, p := range l {
			if p.At != i%3 || len(p.S) != []int{256, 256, 5, 256}[i] {
				t.Errorf("the write %d is one of %d, %d bytes", i, p.At, len(p.S))
			}
		}
		ahead := d.Copy()
		clear(memory)
		clear(l)
		for a := range 3 {
			s, _ := ahead.Read(a)
			has(t, d, a, s)
		}
		has(t, d, 0, full(1))
	}
}
