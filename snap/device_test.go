package snap_test

import (
	"bytes"
	"math"
	"slices"
	"testing"

	"quartermaster/api"
	"quartermaster/disk"
	"quartermaster/snap"
)

// free is what a sector of a device has at first.
func free(a int) []byte { return sealed(api.Block{Kind: 1, Volume: volume, Addr: a}) }

// deviceOf is a device of n sectors that are free; nothing waits.
func deviceOf(t *testing.T, n int) *disk.Disk {
	t.Helper()
	d, err := disk.New(n)
	if err != api.OK {
		t.Fatalf("New(%d): %d", n, err)
	}
	for a := range n {
		writes(t, d, a, free(a))
	}
	if err := d.Flush(); err != api.OK {
		t.Fatalf("Flush(): %d", err)
	}
	return d
}

// device is one as g lays it out.
func device(t *testing.T, g api.Geo) *disk.Disk {
	t.Helper()
	return deviceOf(t, sectors(g))
}

// dead is one that is.
func dead(t *testing.T, g api.Geo) *disk.Disk {
	t.Helper()
	d := device(t, g)
	d.Arm(0)
	d.Flush()
	return d
}

// with is one where the snapshot 3 of some bytes stands, in an area.
func with(t *testing.T, g api.Geo, area int, b []byte) *disk.Disk {
	t.Helper()
	d := device(t, g)
	write(t, d, volume, g, area, 5, 3, b, api.OK, 2*count(g))
	return d
}

// count is how many shares an area has.
func count(g api.Geo) int { return g.Stripes * (g.K + g.M) }

func writes(t *testing.T, d *disk.Disk, a int, s []byte) {
	t.Helper()
	if err := d.Write(a, s); err != api.OK {
		t.Fatalf("Write(%d): %d", a, err)
	}
}

func fault(t *testing.T, d *disk.Disk, l ...api.Fault) {
	t.Helper()
	for _, f := range l {
		if err := d.Fault(f); err != api.OK {
			t.Fatalf("Fault(%v): %d", f, err)
		}
	}
}

func drop(a, n int) api.Fault  { return api.Fault{Kind: api.FaultDrop, At: a, N: n} }
func miss(a, to int) api.Fault { return api.Fault{Kind: api.FaultMiss, At: a, To: to} }
func lose(a int) api.Fault     { return api.Fault{Kind: api.FaultLose, At: a} }
func blank(a int) api.Fault    { return api.Fault{Kind: api.FaultBlank, At: a} }

// rot changes up to four bytes.
func rot(a, off int) api.Fault {
	return api.Fault{Kind: api.FaultRot, At: a, Off: off, Mask: [4]byte{1, 255, 0, 16}}
}

// write and read call what is to be tested, and look at what it answers, at how many
// reads and writes that took, and at whether what is handed in stays.
func write(t *testing.T, d *disk.Disk, v int, g api.Geo, area, epoch, no int, b []byte, want api.Errno, ops int) {
	t.Helper()
	before, was := d.Ops(), bytes.Clone(b)
	err := snap.Write(d, v, g, area, epoch, no, b)
	if took := d.Ops() - before; err != want || took != ops {
		t.Errorf("Write(%d, %v, %d, %d, %d) of %d bytes: %d by %d, not %d by %d", v, g, area, epoch, no, len(b), err, took, want, ops)
	}
	if !bytes.Equal(b, was) {
		t.Error("Write changes what is handed in")
	}
}

func read(t *testing.T, d *disk.Disk, v int, g api.Geo, area, no, long int, want []byte, errWant api.Errno, ops int) {
	t.Helper()
	before := d.Ops()
	b, err := snap.Read(d, v, g, area, no, long)
	if took := d.Ops() - before; err != errWant || !bytes.Equal(b, want) || took != ops {
		t.Errorf("Read(%d, %v, %d, %d, %d): %d bytes, %d by %d, not %d, %d by %d, or others", v, g, area, no, long, len(b), err, took, len(want), errWant, ops)
	}
}

// reads and tooMuch look at a snapshot of the volume: it is there wholly, or the stripe n
// is the first one of which too much is damaged, and the last one that is read.
func reads(t *testing.T, d *disk.Disk, g api.Geo, area, no int, want []byte) {
	t.Helper()
	read(t, d, volume, g, area, no, len(want), want, api.OK, count(g))
}

func tooMuch(t *testing.T, d *disk.Disk, g api.Geo, area, no, n int) {
	t.Helper()
	read(t, d, volume, g, area, no, 1, nil, api.ErrDamaged, (n+1)*(g.K+g.M))
}

// alike looks at whether two devices are the same: now, and behind a crash that keeps
// nothing, and whether as much was read and written of both.
func alike(t *testing.T, d, e *disk.Disk) {
	t.Helper()
	if d.Ops() != e.Ops() || d.Dead() != e.Dead() || d.Len() != e.Len() {
		t.Fatalf("%d reads and writes, dead %v, not %d, %v", d.Ops(), d.Dead(), e.Ops(), e.Dead())
	}
	for _, keeps := range []bool{true, false} {
		d, e := d.Copy(), e.Copy()
		d.Crash([]bool{keeps})
		e.Crash([]bool{keeps})
		for a := range d.Len() {
			s, err := d.Read(a)
			if want, errWant := e.Read(a); err != errWant || !bytes.Equal(s, want) {
				t.Fatalf("behind a crash (%v) the sector %d has %v (%d), not %v (%d)", keeps, a, s, err, want, errWant)
			}
		}
	}
}

// has looks at what a device has, behind a crash that keeps nothing, or all: these, the
// later ones of the same place, and all else as it was made.
func has(t *testing.T, d *disk.Disk, keeps bool, l ...api.Put) {
	t.Helper()
	want := map[int][]byte{}
	for _, p := range l {
		want[p.At] = p.S
	}
	c := d.Copy()
	c.Crash([]bool{keeps})
	for a := range c.Len() {
		s, err := c.Read(a)
		if want[a] == nil {
			want[a] = free(a)
		}
		if err != api.OK || !bytes.Equal(s, want[a]) {
			t.Errorf("behind a crash (%v) the sector %d has %v (%d), not %v", keeps, a, s, err, want[a])
		}
	}
}

// P12.3: what Write has written is there behind a crash, each at its place, and nothing
// else; it takes a write and a read of each share, Read a read of each one.
func TestWrite(t *testing.T) {
	for _, g := range geos() {
		for area := range 2 {
			for _, n := range longs(g) {
				if g.Stripes > 4 && n%228 == 0 {
					continue // the same as of others, and there are many sectors
				}
				d, b := device(t, g), content(n)
				write(t, d, volume, g, area, 5, 3, b, api.OK, 2*count(g))
				has(t, d, false, putsOf(volume, g, area, 5, 3, b)...)
				has(t, d, true, putsOf(volume, g, area, 5, 3, b)...)
				reads(t, d, g, area, 3, b)
				tooMuch(t, d, g, 1-area, 3, 0)
			}
		}
	}
}

// P12.1, P12.3: the chapter's example, as it is written, and is read with each share lost.
func TestWriteOfTheExample(t *testing.T) {
	for area := range 2 {
		b, l := example(t, area)
		d := device(t, small())
		write(t, d, 1, small(), area, 2, 3, b, api.OK, 6)
		has(t, d, false, l...)
		for lost := range 3 {
			c := d.Copy()
			fault(t, c, lose(l[lost].At))
			read(t, c, 1, small(), area, 3, 300, b, api.OK, 3)
			fault(t, c, lose(l[(lost+1)%3].At))
			read(t, c, 1, small(), area, 3, 300, nil, api.ErrDamaged, 3)
		}
	}
}

// P12.3: each share is written and flushed ahead of the next one, from the first one on.
func TestWriteInOrder(t *testing.T) {
	for _, g := range []api.Geo{small(), wide()} {
		b := content(room(g) - 1)
		l := putsOf(volume, g, 1, 5, 3, b)
		for until := range 2*len(l) + 1 {
			d := device(t, g)
			d.Arm(until)
			if until == 2*len(l) { // as many writes as flushes go well
				write(t, d, volume, g, 1, 5, 3, b, api.OK, until)
				has(t, d, false, l...)
				continue
			}
			write(t, d, volume, g, 1, 5, 3, b, api.ErrDead, until/2+(until+1)/2)
			has(t, d, false, l[:until/2]...)
			has(t, d, true, l[:(until+1)/2]...)
			read(t, d, volume, g, 1, 3, 1, nil, api.ErrDead, 0)
			write(t, d, volume, g, 1, 5, 3, b, api.ErrDead, 0)
		}
	}
}

// writesNothing looks at whether a Write answers an error, and neither writes nor reads
// nor flushes.
func writesNothing(t *testing.T, v int, g api.Geo, area, epoch, no int, b []byte, want api.Errno) {
	t.Helper()
	d := deviceOf(t, 26)
	waits := api.Put{At: 20, S: free(3)}
	writes(t, d, waits.At, waits.S) // it waits on
	d.Arm(0)                        // and a write or a flush would kill it
	write(t, d, v, g, area, epoch, no, b, want, 0)
	if d.Dead() {
		t.Errorf("Write(%d, %v, %d, %d, %d) of %d bytes writes, or flushes", v, g, area, epoch, no, len(b))
	}
	has(t, d, true, waits)
	has(t, d, false)
	write(t, nil, v, g, area, epoch, no, b, want, 0)
	write(t, new(disk.Disk), v, g, area, epoch, no, b, want, 0)
	write(t, dead(t, small()), v, g, area, epoch, no, b, want, 0)
}

// P12.3: of what may not be, or is too long, nothing is written, nothing read, and nothing
// flushed, whatever the device is.
func TestWriteOfWhatMayNotBe(t *testing.T) {
	for _, b := range [][]byte{nil, content(300), content(457)} {
		for _, g := range badGeos() {
			writesNothing(t, volume, g, 0, 5, 3, b, api.ErrArg)
		}
		for _, area := range notAreas() {
			writesNothing(t, volume, small(), area, 5, 3, b, api.ErrArg)
		}
		for _, n := range notWords() {
			writesNothing(t, n, small(), 0, 5, 3, b, api.ErrArg)
			writesNothing(t, volume, small(), 1, n, 3, b, api.ErrArg)
			writesNothing(t, volume, small(), 0, 5, n, b, api.ErrArg)
		}
	}
	for area := range 2 {
		writesNothing(t, volume, small(), area, 5, 3, content(457), api.ErrLong)
		writesNothing(t, volume, small(), area, 5, 3, make([]byte, 1<<20), api.ErrLong)
	}
}

// P12.3: the device's errors are handed on: of one that is dead, or has too few sectors.
// What it has room for is written.
func TestWriteOnWrongDevices(t *testing.T) {
	b := content(300)
	write(t, nil, volume, small(), 0, 5, 3, b, api.ErrDead, 0)
	write(t, new(disk.Disk), volume, small(), 0, 5, 3, b, api.ErrNone, 0)
	d := dead(t, small())
	write(t, d, volume, small(), 0, 5, 3, b, api.ErrDead, 0)
	has(t, d, true)
	for n := 1; n < 26; n++ {
		for area := range 2 {
			d, l := deviceOf(t, n), putsOf(volume, small(), area, 5, 3, b)
			fits := min(3, max(0, n-l[0].At))
			err := api.ErrNone
			if fits == 3 {
				err = api.OK
			}
			write(t, d, volume, small(), area, 5, 3, b, err, 2*fits)
			has(t, d, false, l[:fits]...)
		}
	}
}

// P12.3: writes of a share that are dropped or misled are tried again, up to four times;
// then ErrDamaged is handed on, and those behind are not written.
func TestWriteAmongDropsAndMisses(t *testing.T) {
	b := content(456)
	l := putsOf(volume, small(), 1, 5, 3, b)
	for i, p := range l {
		for wrong := range 6 {
			for _, f := range []api.Fault{drop(p.At, 1), miss(p.At, 19)} {
				d := device(t, small())
				fault(t, d, slices.Repeat([]api.Fault{f}, wrong)...)
				want, err, ops := l, api.OK, 6+2*wrong
				if wrong > 3 {
					want, err, ops = l[:i], api.ErrDamaged, 2*i+8
				}
				write(t, d, volume, small(), 1, 5, 3, b, err, ops)
				if f.Kind == api.FaultMiss && wrong > 0 { // where it went instead
					want = append(slices.Clone(want), api.Put{At: 19, S: p.S})
				}
				has(t, d, false, want...)
			}
		}
	}
}

// P12.3: what was wrong with a sector ahead is over behind a Write.
func TestWriteOverHurtSectors(t *testing.T) {
	for i := range 3 {
		for _, f := range hurts(at(small(), 1, 0, i)) {
			d, b := with(t, small(), 1, content(456)), content(300)
			fault(t, d, f, lose(20), lose(22))
			write(t, d, volume, small(), 1, 6, 4, b, api.OK, 6)
			reads(t, d, small(), 1, 4, b)
			fault(t, d, lose(at(small(), 1, 0, (i+1)%3)))
			reads(t, d, small(), 1, 4, b)
		}
	}
}

// P12.3: long bytes are read, of all that there is room for: also fewer than were written,
// and more, which are noughts. All shares are read all the same.
func TestReadOfSoMany(t *testing.T) {
	for _, g := range []api.Geo{small(), wide()} {
		for _, n := range longs(g) {
			b := content(n)
			d := with(t, g, 0, b)
			b = append(b, make([]byte, room(g)-n)...)
			for _, long := range longs(g) {
				reads(t, d, g, 0, 3, b[:long])
			}
		}
	}
}

// P12.3: of what may not be nothing is read, whatever the device is.
func TestReadOfWhatMayNotBe(t *testing.T) {
	g := small()
	for _, d := range []*disk.Disk{nil, {}, dead(t, g), device(t, g), with(t, g, 0, content(300))} {
		before := d.Copy()
		for _, long := range []int{-1, 0, 1, 456, 457} {
			for _, bad := range badGeos() {
				read(t, d, volume, bad, 0, 3, long, nil, api.ErrArg, 0)
			}
			for _, area := range notAreas() {
				read(t, d, volume, g, area, 3, long, nil, api.ErrArg, 0)
			}
			for _, n := range notWords() {
				read(t, d, n, g, 0, 3, long, nil, api.ErrArg, 0)
				read(t, d, volume, g, 1, n, long, nil, api.ErrArg, 0)
			}
			read(t, d, 1<<32+volume, g, 0, 3, long, nil, api.ErrArg, 0)
			read(t, d, volume, g, 0, 1<<32+3, long, nil, api.ErrArg, 0)
		}
		for _, long := range []int{-1, 457, 684, 1<<32 + 300, math.MinInt, math.MaxInt} {
			read(t, d, volume, g, 0, 3, long, nil, api.ErrArg, 0)
			read(t, d, volume, g, 1, 3, long, nil, api.ErrArg, 0)
		}
		if d != nil {
			alike(t, d, before)
		}
	}
	d := with(t, wide(), 1, content(2052))
	read(t, d, volume, wide(), 1, 3, 2052, content(2052), api.OK, 15)
	read(t, d, volume, wide(), 1, 3, 2053, nil, api.ErrArg, 0)
}

// P12.3: each number at the edges of what it may be is written and read.
func TestReadAtEdges(t *testing.T) {
	for _, n := range words() {
		d, b := device(t, small()), content(300)
		write(t, d, n, small(), 1, n, n, b, api.OK, 6)
		read(t, d, n, small(), 1, n, 300, b, api.OK, 3)
		read(t, d, n^1, small(), 1, n, 300, nil, api.ErrDamaged, 3)
		read(t, d, n, small(), 1, n^1, 300, nil, api.ErrDamaged, 3)
	}
}

// P12.3: a dead device answers ErrDead, also where nothing stands.
func TestReadOfDeadDevices(t *testing.T) {
	for _, long := range []int{0, 1, 456} {
		read(t, nil, volume, small(), 0, 3, long, nil, api.ErrDead, 0)
		read(t, dead(t, small()), volume, small(), 1, 3, long, nil, api.ErrDead, 0)
		d := with(t, small(), 1, content(300))
		d.Arm(0)
		d.Flush()
		before := d.Copy()
		read(t, d, volume, small(), 1, 3, long, nil, api.ErrDead, 0)
		alike(t, d, before)
	}
}

// P12.3: a device that is armed reads well: reads kill none, and nothing waits less.
func TestReadOfAnArmedDevice(t *testing.T) {
	b := content(300)
	d := with(t, small(), 1, b)
	writes(t, d, 3, free(9))
	d.Arm(0)
	reads(t, d, small(), 1, 3, b)
	tooMuch(t, d, small(), 0, 3, 0)
	if d.Dead() {
		t.Error("Read writes, or flushes")
	}
	d.Crash(nil)
	has(t, d, true, putsOf(volume, small(), 1, 5, 3, b)...)
}

// P12.3: where nothing stands, or another volume's, number's or area's snapshot, too much
// is damaged: what stands in one area is none of the other one, though it be copied there.
func TestReadOfAnother(t *testing.T) {
	g, b := wide(), content(2000)
	tooMuch(t, device(t, g), g, 0, 3, 0)
	blank, _ := disk.New(sectors(g))
	tooMuch(t, blank, g, 1, 3, 0)
	read(t, blank, volume, g, 1, 3, 0, nil, api.ErrDamaged, 5) // not even nothing is read
	d := with(t, g, 0, b)
	for _, no := range []int{0, 2, 4, 4294967295} {
		tooMuch(t, d, g, 0, no, 0)
	}
	tooMuch(t, d, g, 1, 3, 0)
	read(t, d, volume+1, g, 0, 3, 2000, nil, api.ErrDamaged, 5)
	for i, p := range putsOf(volume, g, 0, 5, 3, b) {
		writes(t, d, at(g, 1, 0, i), p.S)
	}
	tooMuch(t, d, g, 1, 3, 0)
	reads(t, d, g, 0, 3, b)
}

// P12.3: what waits is read, too; and it waits on.
func TestReadOfWhatWaits(t *testing.T) {
	g, b := small(), content(300)
	d := device(t, g)
	for _, p := range putsOf(volume, g, 1, 5, 3, b)[:2] {
		writes(t, d, p.At, p.S)
	}
	reads(t, d, g, 1, 3, b)
	d.Crash(nil)
	tooMuch(t, d, g, 1, 3, 0)
}

// P12.3: a device that has too few sectors is read as far as it goes: with K of each stripe
// there all is read.
func TestReadOfTooFewSectors(t *testing.T) {
	g, b := small(), content(300)
	whole := putsOf(volume, g, 1, 5, 3, b)
	for n := 1; n < 26; n++ {
		d := deviceOf(t, n)
		for _, p := range whole {
			if p.At < n {
				writes(t, d, p.At, p.S)
			}
		}
		there := min(3, max(0, n-23)) // what is not there counts as no read
		if there < 2 {
			read(t, d, volume, g, 1, 3, 300, nil, api.ErrDamaged, there)
		} else {
			read(t, d, volume, g, 1, 3, 300, b, api.OK, there)
		}
	}
	read(t, new(disk.Disk), volume, g, 0, 3, 300, nil, api.ErrDamaged, 0)
}

// R3, R5: what is read is the caller's own, and nothing is kept from one to the next.
func TestReadIsTheCallersOwn(t *testing.T) {
	g, b := wide(), content(2000)
	d := with(t, g, 0, b)
	fill(b)
	for _, long := range []int{0, 1, 228, 2000, 2052} {
		got, _ := snap.Read(d, volume, g, 0, 3, long)
		fill(got)
		reads(t, d, g, 0, 3, content(2000))
	}
	has(t, d, false, putsOf(volume, g, 0, 5, 3, content(2000))...)
}
