package sup_test

import (
	"bytes"
	"slices"
	"testing"

	"quartermaster/api"
	"quartermaster/disk"
	"quartermaster/sup"
)

// old is what the sector a of a device has at first.
func old(a int) []byte { return bytes.Repeat([]byte{byte(100 + a)}, 256) }

// device is one of n sectors that differ; nothing waits.
func device(t *testing.T, n int) *disk.Disk {
	t.Helper()
	d, err := disk.New(n)
	if err != api.OK {
		t.Fatalf("New(%d): %d", n, err)
	}
	for a := range n {
		write(t, d, a, old(a))
	}
	if err := d.Flush(); err != api.OK {
		t.Fatalf("Flush(): %d", err)
	}
	return d
}

// with is a device of 26 sectors where x is installed.
func with(t *testing.T, x api.Super) *disk.Disk {
	t.Helper()
	d := device(t, 26)
	install(t, d, x, api.OK, 8)
	return d
}

func write(t *testing.T, d *disk.Disk, a int, s []byte) {
	t.Helper()
	if err := d.Write(a, s); err != api.OK {
		t.Fatalf("Write(%d): %d", a, err)
	}
}

func fault(t *testing.T, d *disk.Disk, l ...api.Fault) {
	t.Helper()
	for _, f := range l {
		if err := d.Fault(f); err != api.OK {
			t.Fatalf("Fault(%v): %d", f, err)
		}
	}
}

func drop(a, n int) api.Fault  { return api.Fault{Kind: api.FaultDrop, At: a, N: n} }
func miss(a, to int) api.Fault { return api.Fault{Kind: api.FaultMiss, At: a, To: to} }
func lose(a int) api.Fault     { return api.Fault{Kind: api.FaultLose, At: a} }
func blank(a int) api.Fault    { return api.Fault{Kind: api.FaultBlank, At: a} }

// rot changes up to four bytes.
func rot(a, off int) api.Fault {
	return api.Fault{Kind: api.FaultRot, At: a, Off: off, Mask: [4]byte{1, 255, 0, 16}}
}

// install calls what is to be tested, and looks at what it answers and at how many
// reads and writes that took.
func install(t *testing.T, d *disk.Disk, x api.Super, want api.Errno, ops int) {
	t.Helper()
	before := d.Ops()
	err := sup.Install(d, x)
	if took := d.Ops() - before; err != want || took != ops {
		t.Errorf("Install: %d by %d reads and writes, not %d by %d", err, took, want, ops)
	}
}

// copiesOf are the writes of an Install.
func copiesOf(x api.Super) []api.Put {
	var l []api.Put
	for i := range 4 {
		l = append(l, api.Put{At: i, S: sectorOf(x, i)})
	}
	return l
}

// alike looks at whether two devices are the same: now, and behind a crash that
// keeps nothing, and whether as much was read and written of both.
func alike(t *testing.T, d, e *disk.Disk) {
	t.Helper()
	if d.Ops() != e.Ops() || d.Dead() != e.Dead() || d.Len() != e.Len() {
		t.Fatalf("%d reads and writes, dead %v, not %d, %v", d.Ops(), d.Dead(), e.Ops(), e.Dead())
	}
	for _, keeps := range []bool{true, false} {
		d, e := d.Copy(), e.Copy()
		d.Crash([]bool{keeps})
		e.Crash([]bool{keeps})
		for a := range d.Len() {
			s, err := d.Read(a)
			if want, errWant := e.Read(a); err != errWant || !bytes.Equal(s, want) {
				t.Fatalf("behind a crash (%v) the sector %d has %v (%d), not %v (%d)", keeps, a, s, err, want, errWant)
			}
		}
	}
}

// has looks at what the first sectors of a device have, behind a crash that keeps
// nothing or all, and at whether the others have what they had.
func has(t *testing.T, d *disk.Disk, keeps bool, first ...[]byte) {
	t.Helper()
	c := d.Copy()
	c.Crash([]bool{keeps})
	for a := range c.Len() {
		want := old(a)
		if a < len(first) {
			want = first[a]
		}
		if s, err := c.Read(a); err != api.OK || !bytes.Equal(s, want) {
			t.Errorf("behind a crash (%v) the sector %d has %v (%d), not %v", keeps, a, s, err, want)
		}
	}
}

// P10.4: the four sectors are written, each at its place, and nothing else; it is
// there behind a crash; Install takes four writes and four reads, Read four reads.
func TestInstall(t *testing.T) {
	for _, n := range []int{4, 5, 26, 4096} {
		d := device(t, n)
		install(t, d, ordinary(), api.OK, 8)
		has(t, d, true, written()...)
		has(t, d, false, written()...)
		read(t, d, ordinary(), 4)
		d.Crash(nil)
		read(t, d, ordinary(), 4)
		install(t, d, ordinary(), api.OK, 8)
		install(t, d, ofGen(6), api.OK, 8)
		has(t, d, false, copyOf(6, 0), copyOf(6, 1), copyOf(6, 2), copyOf(6, 3))
		read(t, d, ofGen(6), 4)
	}
}

// P10.4: an older one, too, is installed over one that stands.
func TestInstallOfAnOlderOne(t *testing.T) {
	d := with(t, ofGen(6))
	install(t, d, ofGen(2), api.OK, 8)
	has(t, d, false, copyOf(2, 0), copyOf(2, 1), copyOf(2, 2), copyOf(2, 3))
	read(t, d, ofGen(2), 4)
}

// P10.4: each is written and flushed ahead of the next one, from the first one on.
func TestInstallInOrder(t *testing.T) {
	for until := range 9 {
		d := device(t, 6)
		d.Arm(until)
		if until == 8 { // four writes and four flushes go well
			install(t, d, ordinary(), api.OK, 8)
			has(t, d, false, written()...)
			continue
		}
		install(t, d, ordinary(), api.ErrDead, until/2+(until+1)/2)
		has(t, d, false, written()[:until/2]...)
		has(t, d, true, written()[:(until+1)/2]...)
		readError(t, d, api.ErrDead, 0)
		install(t, d, ordinary(), api.ErrDead, 0)
	}
}

// P10.4: of one that may not be nothing is written, nothing read, and nothing flushed,
// whatever the device is.
func TestInstallOfWhatMayNotBe(t *testing.T) {
	for f := range fields(new(api.Super)) {
		for _, n := range about() {
			x := ordinary()
			*fields(&x)[f] = n
			if mayBe(x) {
				continue
			}
			d := device(t, 5)
			write(t, d, 0, old(9)) // it waits on
			d.Arm(0)               // and a write or a flush would kill it
			install(t, d, x, api.ErrArg, 0)
			if d.Dead() {
				t.Errorf("something was written, or flushed, of %v", x)
			}
			has(t, d, true, old(9))
			has(t, d, false)
		}
	}
	none := api.Super{}
	install(t, nil, none, api.ErrArg, 0)
	install(t, new(disk.Disk), none, api.ErrArg, 0)
	d := device(t, 5)
	d.Arm(0)
	d.Flush()
	install(t, d, none, api.ErrArg, 0)
}

// P10.4: a device with too few sectors has the copies that there is room for; what
// can't be read is nothing.
func TestTooFewSectors(t *testing.T) {
	for n := 1; n < 4; n++ {
		d := device(t, n)
		readError(t, d, api.ErrDamaged, n)
		install(t, d, ordinary(), api.ErrNone, 2*n)
		has(t, d, false, written()[:n]...)
		read(t, d, ordinary(), n)
	}
	install(t, new(disk.Disk), ordinary(), api.ErrNone, 0)
	readError(t, new(disk.Disk), api.ErrDamaged, 0)
	// A device that is smaller than the geometry says is none of its cares.
	d := device(t, 4)
	install(t, d, ordinary(), api.OK, 8)
	read(t, d, ordinary(), 4)
}

// P10.4, R2: a dead device answers ErrDead, also where there is nothing to be read.
func TestDeadDevices(t *testing.T) {
	install(t, nil, ordinary(), api.ErrDead, 0)
	readError(t, nil, api.ErrDead, 0)
	for _, d := range []*disk.Disk{device(t, 1), device(t, 26), with(t, ordinary())} {
		d.Arm(0)
		d.Flush()
		install(t, d, ofGen(6), api.ErrDead, 0)
		readError(t, d, api.ErrDead, 0)
		before := d.Copy()
		before.Crash(nil)
		d.Crash(nil)
		alike(t, d, before)
	}
}

// P10.4: a device that is armed reads well: reads kill none.
func TestReadOfAnArmedDevice(t *testing.T) {
	d := with(t, ordinary())
	d.Arm(0)
	read(t, d, ordinary(), 4)
	read(t, d, ordinary(), 4)
	if d.Dead() {
		t.Error("Read writes, or flushes")
	}
}

// P10.4: Read reads what waits, too, and leaves it waiting.
func TestReadOfWhatWaits(t *testing.T) {
	d := with(t, ordinary())
	write(t, d, 3, copyOf(6, 3))
	read(t, d, ofGen(6), 4)
	write(t, d, 0, copyOf(7, 1)) // in another's place
	read(t, d, ofGen(6), 4)
	d.Crash(nil)
	has(t, d, true, written()...)
	read(t, d, ordinary(), 4)
}

// P10.4: of a device without any copy nothing is read, whatever stands there.
func TestReadOfNothing(t *testing.T) {
	readError(t, device(t, 26), api.ErrDamaged, 4)
	d, _ := disk.New(26)
	readError(t, d, api.ErrDamaged, 4)
	for a := range 4 { // each in another's place, and behind all of them
		write(t, d, a, copyOf(1, (a+1)%4))
	}
	write(t, d, 4, sealed(blockOf(ofGen(1), 4)))
	write(t, d, 5, copyOf(1, 0))
	readError(t, d, api.ErrDamaged, 4)
	write(t, d, 3, copyOf(1, 3))
	read(t, d, ofGen(1), 4)
}

// P10.4: what was wrong with a copy's sector ahead is over behind an Install.
func TestInstallOverHurtSectors(t *testing.T) {
	for i := range 4 {
		for _, hurt := range [][]api.Fault{{lose(i)}, {blank(i)}, {rot(i, 0)}, {rot(i, 255)}, {rot(i, 7), lose(i)}, {lose(0), lose(1), lose(2), lose(3)}} {
			d := with(t, ordinary())
			fault(t, d, hurt...)
			install(t, d, ofGen(6), api.OK, 8)
			has(t, d, false, copyOf(6, 0), copyOf(6, 1), copyOf(6, 2), copyOf(6, 3))
		}
	}
}

// P10.4: writes of a copy that are dropped or misled are tried again, up to four
// times; then ErrDamaged is handed on, and those behind are not written.
func TestInstallAmongDropsAndMisses(t *testing.T) {
	for i := range 4 {
		for wrong := range 6 {
			for _, f := range []api.Fault{drop(i, 1), miss(i, 4)} {
				d := device(t, 5)
				fault(t, d, slices.Repeat([]api.Fault{f}, wrong)...)
				want, err, ops := written(), api.OK, 8+2*wrong
				if wrong > 3 {
					want, err, ops = want[:i], api.ErrDamaged, 2*i+8
				}
				install(t, d, ordinary(), err, ops)
				if f.Kind == api.FaultMiss && wrong > 0 { // where it went instead
					for a := len(want); a < 4; a++ {
						want = append(want, old(a))
					}
					want = append(want, written()[i])
				}
				has(t, d, false, want...)
			}
		}
	}
}

// P10.4: a copy that is misled to another one's place hurts that one till it is
// written itself.
func TestInstallMisledAmongTheCopies(t *testing.T) {
	for i := range 4 {
		for to := range 4 {
			d := with(t, ofGen(4))
			fault(t, d, miss(i, to))
			ops := 10
			if to == i {
				ops = 8
			}
			install(t, d, ordinary(), api.OK, ops)
			want := written()
			if to < i {
				want[to] = want[i]
			}
			has(t, d, false, want...)
			read(t, d, ordinary(), 4)
		}
	}
}

// P10.5: the chapter's example.
func TestExample(t *testing.T) {
	d := with(t, ofGen(5))
	fault(t, d, lose(0), lose(1), lose(3))
	read(t, d, ofGen(5), 4)
}

// P10.5: of each choice of copies that are whole, lost, blank and rotten, what was
// installed is read, as long as one is whole.
func TestReadOfHurtCopies(t *testing.T) {
	for choice := range 4 * 4 * 4 * 4 {
		d := with(t, ordinary())
		whole := 0
		for i, rest := 0, choice; i < 4; i, rest = i+1, rest/4 {
			switch rest % 4 {
			case 0:
				whole++
			case 1:
				fault(t, d, lose(i))
			case 2:
				fault(t, d, blank(i))
			case 3:
				fault(t, d, rot(i, (choice+64*i)%256))
			}
		}
		before := d.Copy()
		if whole > 0 {
			read(t, d, ordinary(), 4)
		} else {
			readError(t, d, api.ErrDamaged, 4)
			readError(t, before, api.ErrDamaged, 4)
			alike(t, d, before)
		}
		install(t, d, ordinary(), api.OK, 8)
		read(t, d, ordinary(), 4)
	}
}

// P10.5: a copy is rotten wherever it rots.
func TestReadOfRottenCopies(t *testing.T) {
	for off := range 256 {
		for left := range 4 {
			d := with(t, ordinary())
			for i := range 4 {
				if i != left {
					fault(t, d, rot(i, off))
				}
			}
			read(t, d, ordinary(), 4)
			fault(t, d, rot(left, off))
			readError(t, d, api.ErrDamaged, 4)
		}
	}
}

// P10.5: a crash in the midst of an Install leaves what was there, or it, whatever
// is kept of what waits: the newer one, as soon as one copy of it is there and as
// long as one is. Copies of what was there may be lost, but not all.
func TestCrashInTheMidst(t *testing.T) {
	for _, next := range []api.Super{ofGen(6), ofGen(4), ofGen(2)} {
		for lost := range 15 {
			for until := range 8 {
				for _, keeps := range [][]bool{nil, {false}, {true}, {true, false}, {false, true}} {
					d := with(t, ofGen(4))
					for i := range 4 {
						if lost>>i&1 == 1 {
							fault(t, d, lose(i))
						}
					}
					d.Arm(until)
					install(t, d, next, api.ErrDead, until/2+(until+1)/2)
					readError(t, d, api.ErrDead, 0)
					d.Crash(keeps)
					there := until / 2 // how many copies are the new one's
					if len(keeps) > 0 && keeps[0] {
						there = (until + 1) / 2
					}
					want := ofGen(4)
					oldLeft := lost | (1<<there - 1) // which of the old one's copies are gone
					if there > 0 && (next.Gen > 4 || oldLeft == 15) {
						want = next
					}
					read(t, d, want, 4)
				}
			}
		}
	}
}

// P10.5: of two of the same Gen, of which one was installed in the midst of the
// other one, the first one's is read.
func TestCrashInTheMidstOfTheSameGen(t *testing.T) {
	next := ofGen(4)
	next.Chain = 1
	for until := range 8 {
		for _, keeps := range []bool{false, true} {
			d := with(t, ofGen(4))
			d.Arm(until)
			install(t, d, next, api.ErrDead, until/2+(until+1)/2)
			d.Crash([]bool{keeps})
			want := ofGen(4)
			if until >= 2 || until == 1 && keeps {
				want = next
			}
			read(t, d, want, 4)
		}
	}
}

// P10.5: the first Install of all leaves nothing, or it.
func TestCrashInTheFirstInstall(t *testing.T) {
	for until := range 8 {
		for _, keeps := range []bool{false, true} {
			d := device(t, 26)
			d.Arm(until)
			install(t, d, ordinary(), api.ErrDead, until/2+(until+1)/2)
			d.Crash([]bool{keeps})
			if until >= 2 || until == 1 && keeps {
				read(t, d, ordinary(), 4)
			} else {
				readError(t, d, api.ErrDamaged, 4)
			}
			install(t, d, ordinary(), api.OK, 8)
			read(t, d, ordinary(), 4)
		}
	}
}

// P10.5: behind a crash, what waited of others is done or gone as ever, and a write
// that waited of a copy's sector does not come up again.
func TestInstallFlushesWhatWaits(t *testing.T) {
	d := with(t, ofGen(4))
	write(t, d, 9, old(1))
	write(t, d, 2, copyOf(9, 2))
	install(t, d, ofGen(5), api.OK, 8)
	d.Crash(nil)
	read(t, d, ofGen(5), 4)
	if s, err := d.Read(9); err != api.OK || !bytes.Equal(s, old(1)) {
		t.Errorf("the sector 9 has %v (%d)", s, err)
	}
}
