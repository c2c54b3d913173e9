package disk_test

import (
	"bytes"
	"math"
	"math/rand/v2"
	"slices"
	"strconv"
	"strings"
	"testing"

	"quartermaster/api"
	"quartermaster/disk"
)

func mixed(seed uint64) *rand.Rand { return rand.New(rand.NewPCG(seed, 6)) }

// full is a sector of one byte all over; full(0) is noughts.
func full(b byte) []byte { return bytes.Repeat([]byte{b}, api.Sector) }

// some is a sector that is mixed up.
func some(r *rand.Rand) []byte {
	s := make([]byte, api.Sector)
	for i := range s {
		s[i] = byte(r.Uint32())
	}
	return s
}

func device(t *testing.T, n int) *disk.Disk {
	t.Helper()
	d, err := disk.New(n)
	if err != api.OK || d == nil {
		t.Fatalf("New(%d): %d", n, err)
	}
	return d
}

func write(t *testing.T, d *disk.Disk, a int, s []byte) {
	t.Helper()
	if err := d.Write(a, s); err != api.OK {
		t.Fatalf("Write(%d): %d", a, err)
	}
}

func flush(t *testing.T, d *disk.Disk) {
	t.Helper()
	if err := d.Flush(); err != api.OK {
		t.Fatalf("Flush(): %d", err)
	}
}

func fault(t *testing.T, d *disk.Disk, f api.Fault) {
	t.Helper()
	if err := d.Fault(f); err != api.OK {
		t.Fatalf("Fault(%v): %d", f, err)
	}
}

// brief tells bytes that are the same, one behind the other, just once.
func brief(s []byte) string {
	var l []string
	for i := 0; i < len(s); {
		many := 1
		for i+many < len(s) && s[i+many] == s[i] {
			many++
		}
		l = append(l, strconv.Itoa(many)+" times "+strconv.Itoa(int(s[i])))
		i += many
	}
	return strings.Join(l, ", ")
}

// has looks at a sector, of which nothing is to be wrong.
func has(t *testing.T, d *disk.Disk, a int, want []byte) {
	t.Helper()
	if s, err := d.Read(a); err != api.OK || !bytes.Equal(s, want) {
		t.Errorf("Read(%d) = %s, %d, not %s", a, brief(s), err, brief(want))
	}
}

// isLost looks at a sector that can't be read.
func isLost(t *testing.T, d *disk.Disk, a int) {
	t.Helper()
	if s, err := d.Read(a); err != api.ErrBad || len(s) != 0 {
		t.Errorf("Read(%d) = %v, %d, not ErrBad", a, s, err)
	}
}

// stays looks at what a sector has behind a crash that keeps nothing; d goes on
// as it was.
func stays(t *testing.T, d *disk.Disk, a int, want []byte) {
	t.Helper()
	c := d.Copy()
	c.Crash(nil)
	has(t, c, a, want)
}

// killed is a device that is dead.
func killed(t *testing.T, n int) *disk.Disk {
	t.Helper()
	d := device(t, n)
	d.Arm(0)
	if err := d.Flush(); err != api.ErrDead || !d.Dead() {
		t.Fatalf("it did not die: %d", err)
	}
	return d
}

// noPlaces are numbers of no sector of a device that has n.
func noPlaces(n int) []int { return []int{-1, n, n + 1, -n - 1, math.MinInt, math.MaxInt} }

// P6.1: New at its edges, and of what may not be.
func TestNew(t *testing.T) {
	for _, n := range []int{0, -1, 4097, -4096, 1 << 32, math.MinInt, math.MaxInt} {
		if d, err := disk.New(n); d != nil || err != api.ErrArg {
			t.Errorf("New(%d) = %v, %d", n, d, err)
		}
	}
	for _, n := range []int{1, 2, 26, 4095, 4096} {
		d := device(t, n)
		if d.Len() != n || d.Dead() || d.Ops() != 0 {
			t.Errorf("New(%d): %d sectors, dead %v, %d reads and writes", n, d.Len(), d.Dead(), d.Ops())
		}
		for a := range n {
			has(t, d, a, full(0))
		}
		d.Crash([]bool{true})
		flush(t, d)
		for a := range n {
			has(t, d, a, full(0))
		}
		for _, a := range noPlaces(n) {
			if s, err := d.Read(a); len(s) != 0 || err != api.ErrNone {
				t.Errorf("Read(%d) of %d sectors = %v, %d", a, n, s, err)
			}
		}
	}
}

// P6.1: of a sector the last write that waits is read; of one that is lost
// ErrBad, if none waits; else what it has.
func TestRead(t *testing.T) {
	d := device(t, 3)
	write(t, d, 1, full(1))
	has(t, d, 1, full(1))
	write(t, d, 1, full(2))
	write(t, d, 2, full(3))
	for range 3 { // reading changes nothing
		has(t, d, 0, full(0))
		has(t, d, 1, full(2))
		has(t, d, 2, full(3))
	}
	flush(t, d)
	has(t, d, 1, full(2))
	fault(t, d, api.Fault{Kind: api.FaultLose, At: 1})
	isLost(t, d, 1)
	isLost(t, d, 1)
	has(t, d, 2, full(3))
	write(t, d, 1, full(4))
	has(t, d, 1, full(4)) // a write of it waits
	d.Crash(nil)
	isLost(t, d, 1) // and waits no more
	write(t, d, 1, full(5))
	flush(t, d)
	has(t, d, 1, full(5))
	stays(t, d, 1, full(5))
}

// P6.1, P6.2: ErrDead is told ahead of ErrNone, and that ahead of ErrArg.
func TestErrorsInOrder(t *testing.T) {
	for _, c := range []struct {
		name        string
		d           *disk.Disk
		a, long     int
		read, write api.Errno
	}{
		{"all well", device(t, 4), 3, 256, api.OK, api.OK},
		{"dead", killed(t, 4), 3, 256, api.ErrDead, api.ErrDead},
		{"dead, no sector", killed(t, 4), 4, 256, api.ErrDead, api.ErrDead},
		{"dead, no sector, long", killed(t, 4), -1, 257, api.ErrDead, api.ErrDead},
		{"dead, long", killed(t, 4), 0, 257, api.ErrDead, api.ErrDead},
		{"no sector", device(t, 4), 4, 256, api.ErrNone, api.ErrNone},
		{"no sector, below 0", device(t, 4), -1, 256, api.ErrNone, api.ErrNone},
		{"no sector, short", device(t, 4), 4, 255, api.ErrNone, api.ErrNone},
		{"no sector, nothing", device(t, 4), math.MinInt, 0, api.ErrNone, api.ErrNone},
		{"short", device(t, 4), 0, 255, api.OK, api.ErrArg},
		{"long", device(t, 4), 0, 257, api.OK, api.ErrArg},
		{"nothing", device(t, 4), 0, 0, api.OK, api.ErrArg},
		{"two", device(t, 4), 0, 512, api.OK, api.ErrArg},
	} {
		if _, err := c.d.Read(c.a); err != c.read {
			t.Errorf("%s: Read: %d, not %d", c.name, err, c.read)
		}
		if err := c.d.Write(c.a, make([]byte, c.long)); err != c.write {
			t.Errorf("%s: Write: %d, not %d", c.name, err, c.write)
		}
	}
	d := device(t, 1)
	if err := d.Write(0, nil); err != api.ErrArg {
		t.Errorf("Write of nil: %d", err)
	}
}

// P6.2: a write that has an error leaves all as it was.
func TestWrongWritesDoNothing(t *testing.T) {
	d := device(t, 2)
	write(t, d, 0, full(1))
	fault(t, d, api.Fault{Kind: api.FaultDrop, At: 1, N: 1})
	fault(t, d, api.Fault{Kind: api.FaultMiss, At: 1, To: 0})
	for _, a := range noPlaces(2) {
		if err := d.Write(a, full(2)); err != api.ErrNone {
			t.Errorf("Write(%d): %d", a, err)
		}
	}
	for _, long := range []int{0, 1, 255, 257, 4096} {
		for a := range 2 {
			if err := d.Write(a, make([]byte, long)); err != api.ErrArg {
				t.Errorf("Write of %d bytes: %d", long, err)
			}
		}
	}
	if d.Ops() != 1 {
		t.Errorf("%d reads and writes, not 1", d.Ops())
	}
	write(t, d, 1, full(3)) // is still the one that is dropped
	has(t, d, 0, full(1))
	has(t, d, 1, full(0))
	write(t, d, 1, full(4)) // and this one goes to 0
	has(t, d, 0, full(4))
	has(t, d, 1, full(0))
}

// P6.2: what waits is done in order, and waits no more.
func TestFlush(t *testing.T) {
	d := device(t, 3)
	flush(t, d)
	for i := range 10 {
		write(t, d, i%2, full(byte(i+1)))
	}
	stays(t, d, 0, full(0))
	stays(t, d, 1, full(0))
	flush(t, d)
	flush(t, d)
	for _, look := range []func(*testing.T, *disk.Disk, int, []byte){has, stays} {
		look(t, d, 0, full(9))
		look(t, d, 1, full(10))
		look(t, d, 2, full(0))
	}
	write(t, d, 2, full(11))
	d.Crash(append([]bool{true}, make([]bool, 20)...)) // of what waits that is the first one
	for a, b := range []byte{9, 10, 11} {
		has(t, d, a, full(b))
	}
	if err := killed(t, 1).Flush(); err != api.ErrDead {
		t.Errorf("Flush of a dead one: %d", err)
	}
}

// P6.2, P6.3: what is flushed to a sector that was lost, it has.
func TestFlushFindsLostSectors(t *testing.T) {
	d := device(t, 2)
	fault(t, d, api.Fault{Kind: api.FaultLose, At: 0})
	fault(t, d, api.Fault{Kind: api.FaultLose, At: 1})
	write(t, d, 0, full(7))
	crashed := d.Copy()
	crashed.Crash(nil)
	isLost(t, crashed, 0)
	flush(t, d)
	has(t, d, 0, full(7))
	stays(t, d, 0, full(7))
	isLost(t, d, 1)
}

// P6.3: what may not be is told in order, and does nothing: what waits waits on.
func TestFaultErrors(t *testing.T) {
	rot, drop, miss := api.FaultRot, api.FaultDrop, api.FaultMiss
	for _, c := range []struct {
		f   api.Fault
		err api.Errno
	}{
		{api.Fault{}, api.ErrArg},
		{api.Fault{Kind: -1}, api.ErrArg},
		{api.Fault{Kind: 6}, api.ErrArg},
		{api.Fault{Kind: 7, N: 1}, api.ErrArg},
		{api.Fault{Kind: math.MinInt}, api.ErrArg},
		{api.Fault{Kind: math.MaxInt}, api.ErrArg},
		{api.Fault{Kind: 6, Off: -1, N: -1, To: -1}, api.ErrArg},
		{api.Fault{Kind: rot, Off: -1}, api.ErrArg},
		{api.Fault{Kind: rot, Off: 256}, api.ErrArg},
		{api.Fault{Kind: rot, Off: math.MinInt}, api.ErrArg},
		{api.Fault{Kind: rot, Off: math.MaxInt}, api.ErrArg},
		{api.Fault{Kind: drop}, api.ErrArg},
		{api.Fault{Kind: drop, N: -1}, api.ErrArg},
		{api.Fault{Kind: drop, N: 1001}, api.ErrArg},
		{api.Fault{Kind: drop, N: math.MinInt}, api.ErrArg},
		{api.Fault{Kind: drop, N: math.MaxInt}, api.ErrArg},
		{api.Fault{Kind: miss, To: -1}, api.ErrNone},
		{api.Fault{Kind: miss, To: 3}, api.ErrNone},
		{api.Fault{Kind: miss, To: math.MinInt}, api.ErrNone},
		{api.Fault{Kind: miss, To: math.MaxInt}, api.ErrNone},
	} {
		d := device(t, 3)
		write(t, d, 0, full(1))
		if err := d.Fault(c.f); err != c.err {
			t.Errorf("%v: %d, not %d", c.f, err, c.err)
		}
		for _, at := range noPlaces(3) { // which is told ahead of all else
			f := c.f
			f.At = at
			if err := d.Fault(f); err != api.ErrNone {
				t.Errorf("%v: %d, not ErrNone", f, err)
			}
		}
		stays(t, d, 0, full(0)) // it waits on
		write(t, d, 0, full(2))
		has(t, d, 0, full(2))
		has(t, d, 1, full(0))
		has(t, d, 2, full(0))
	}
	for kind := rot; kind <= miss; kind++ {
		for _, at := range noPlaces(3) {
			if err := device(t, 3).Fault(api.Fault{Kind: kind, At: at, N: 1}); err != api.ErrNone {
				t.Errorf("kind %d of sector %d: %d", kind, at, err)
			}
		}
	}
}

// P6.3: each kind has an eye for its own fields alone, and goes on a dead device too.
func TestFaultsThatMayBe(t *testing.T) {
	for _, f := range []api.Fault{
		{Kind: api.FaultRot, Off: 0, N: -1, To: -1},
		{Kind: api.FaultRot, Off: 253, N: 1001, To: 3},
		{Kind: api.FaultRot, Off: 255, N: -1, To: 3},
		{Kind: api.FaultBlank, Off: -1, N: -1, To: -1},
		{Kind: api.FaultLose, Off: 256, N: 1001, To: 3},
		{Kind: api.FaultDrop, Off: -1, N: 1, To: -1},
		{Kind: api.FaultDrop, Off: 256, N: 1000, To: 3},
		{Kind: api.FaultMiss, Off: -1, N: -1, To: 0},
		{Kind: api.FaultMiss, Off: 256, N: 1001, To: 2},
	} {
		for at := range 3 {
			f.At = at
			fault(t, device(t, 3), f)
			fault(t, killed(t, 3), f)
		}
	}
}

// rotted is s as it is when it has rotted, byte by byte.
func rotted(s []byte, off int, mask [4]byte) []byte {
	c := slices.Clone(s)
	for i := range c {
		if i >= off && i < off+4 {
			c[i] ^= mask[i-off]
		}
	}
	return c
}

// P6.3: at most four bytes from Off on rot, as far as the sector goes; what
// rots twice is as it was.
func TestRot(t *testing.T) {
	r := mixed(1)
	for off := range api.Sector {
		for _, mask := range [][4]byte{{}, {1, 2, 4, 8}, {255, 255, 255, 255}, {0, 0, 0, 128}, {byte(r.Uint32()), byte(r.Uint32()), byte(r.Uint32()), byte(r.Uint32())}} {
			d := device(t, 3)
			s := some(r)
			for a := range 3 {
				write(t, d, a, s)
			}
			flush(t, d)
			f := api.Fault{Kind: api.FaultRot, At: 1, Off: off, Mask: mask}
			fault(t, d, f)
			has(t, d, 0, s)
			has(t, d, 1, rotted(s, off, mask))
			has(t, d, 2, s)
			stays(t, d, 1, rotted(s, off, mask))
			fault(t, d, f)
			has(t, d, 1, s)
		}
	}
}

// P6.3: rot byte by byte, at the edges.
func TestRotAtTheEdges(t *testing.T) {
	for _, c := range []struct {
		off, at int // at: where want begins
		want    []byte
	}{{0, 0, []byte{1, 2, 3, 4, 0}}, {251, 250, []byte{0, 1, 2, 3, 4, 0}}, {252, 251, []byte{0, 1, 2, 3, 4}}, {253, 252, []byte{0, 1, 2, 3}}, {254, 253, []byte{0, 1, 2}}, {255, 254, []byte{0, 1}}} {
		d := device(t, 2)
		fault(t, d, api.Fault{Kind: api.FaultRot, At: 0, Off: c.off, Mask: [4]byte{1, 2, 3, 4}})
		want := full(0)
		copy(want[c.at:], c.want)
		has(t, d, 0, want)
		has(t, d, 1, full(0))
	}
}

// P6.3: a sector that is blank is noughts, and not lost; one that is lost can't
// be read, and stays lost when it rots.
func TestBlankAndLose(t *testing.T) {
	blank, lose := api.Fault{Kind: api.FaultBlank, At: 1}, api.Fault{Kind: api.FaultLose, At: 1}
	rot := api.Fault{Kind: api.FaultRot, At: 1, Mask: [4]byte{9, 9, 9, 9}}
	d := device(t, 3)
	for a := range 3 {
		write(t, d, a, full(5))
	}
	flush(t, d)
	fault(t, d, lose)
	isLost(t, d, 1)
	fault(t, d, lose)
	isLost(t, d, 1)
	fault(t, d, rot)
	isLost(t, d, 1)
	d.Crash([]bool{true})
	isLost(t, d, 1)
	flush(t, d)
	isLost(t, d, 1)
	fault(t, d, blank)
	has(t, d, 1, full(0))
	stays(t, d, 1, full(0))
	fault(t, d, rot)
	has(t, d, 1, rotted(full(0), 0, rot.Mask))
	fault(t, d, blank)
	has(t, d, 1, full(0))
	has(t, d, 0, full(5))
	has(t, d, 2, full(5))
}

// P6.3: ahead of a sector's rot, blank or loss what waits of it is done, and
// waits no more; what waits of others waits on, in order.
func TestFaultsDoWhatWaits(t *testing.T) {
	for _, f := range []api.Fault{{Kind: api.FaultRot, At: 1, Off: 250, Mask: [4]byte{1, 1, 1, 1}}, {Kind: api.FaultBlank, At: 1}, {Kind: api.FaultLose, At: 1}} {
		look := func(d *disk.Disk) {
			t.Helper()
			switch f.Kind {
			case api.FaultRot:
				has(t, d, 1, rotted(full(4), f.Off, f.Mask))
			case api.FaultBlank:
				has(t, d, 1, full(0))
			default:
				isLost(t, d, 1)
			}
		}
		d := device(t, 3)
		fault(t, d, api.Fault{Kind: api.FaultLose, At: 1}) // the write that waits finds it again
		for i, a := range []int{0, 1, 2, 1, 0} {
			write(t, d, a, full(byte(i+1)))
		}
		fault(t, d, f)
		look(d)
		has(t, d, 0, full(5))
		has(t, d, 2, full(3))
		none := d.Copy()
		none.Crash(nil)
		look(none)
		has(t, none, 0, full(0))
		has(t, none, 2, full(0))
		for i, keep := range [][]bool{{true, false, false}, {false, true, false}, {false, false, true}} { // of 0, 2 and 0
			c := d.Copy()
			c.Crash(keep)
			look(c)
			has(t, c, 0, full([]byte{1, 0, 5}[i]))
			has(t, c, 2, full([]byte{0, 3, 0}[i]))
		}
		flush(t, d)
		look(d)
		has(t, d, 0, full(5))
		has(t, d, 2, full(3))
	}
}

// P6.3: what waits is done ahead of a fault of a dead device, too.
func TestFaultsOfADeadDevice(t *testing.T) {
	d := device(t, 2)
	write(t, d, 0, full(1))
	write(t, d, 1, full(2))
	d.Arm(0)
	if err := d.Flush(); err != api.ErrDead {
		t.Fatalf("Flush: %d", err)
	}
	fault(t, d, api.Fault{Kind: api.FaultRot, At: 0, Mask: [4]byte{2}})
	fault(t, d, api.Fault{Kind: api.FaultDrop, At: 1, N: 1})
	d.Crash(nil)
	has(t, d, 0, rotted(full(1), 0, [4]byte{2}))
	has(t, d, 1, full(0))
	write(t, d, 1, full(3))
	has(t, d, 1, full(0))
}

// P6.3: the chapter's example, and as many writes as are to be dropped do not
// come to wait, those of that sector alone.
func TestDrop(t *testing.T) {
	d := device(t, 2)
	fault(t, d, api.Fault{Kind: api.FaultDrop, At: 0, N: 1})
	write(t, d, 0, full(1))
	has(t, d, 0, full(0))
	write(t, d, 0, full(1))
	has(t, d, 0, full(1))
	for _, ns := range [][]int{{1}, {2}, {1000}, {1000, 1000}, {1, 1, 3}, {999, 1}} {
		d := device(t, 2)
		all := 0
		for _, n := range ns {
			fault(t, d, api.Fault{Kind: api.FaultDrop, At: 0, N: n})
			all += n
		}
		for i := range all {
			write(t, d, 0, full(9))
			write(t, d, 1, full(byte(i)))
			has(t, d, 0, full(0))
			has(t, d, 1, full(byte(i)))
			if i%3 == 0 { // neither of which lets a fault go
				d.Crash([]bool{true})
			} else {
				flush(t, d)
			}
			stays(t, d, 0, full(0))
			stays(t, d, 1, full(byte(i)))
		}
		write(t, d, 0, full(7))
		has(t, d, 0, full(7))
		flush(t, d)
		has(t, d, 0, full(7))
	}
}

// P6.3: what is dropped leaves what waits as it is; more may come to be dropped
// in the midst of it.
func TestDropLeavesWhatWaits(t *testing.T) {
	d := device(t, 1)
	drop := func(n int) { fault(t, d, api.Fault{Kind: api.FaultDrop, At: 0, N: n}) }
	write(t, d, 0, full(1))
	drop(2)
	write(t, d, 0, full(2))
	has(t, d, 0, full(1))
	stays(t, d, 0, full(0))
	drop(1)
	write(t, d, 0, full(3))
	write(t, d, 0, full(4))
	has(t, d, 0, full(1))
	fault(t, d, api.Fault{Kind: api.FaultLose, At: 0})
	drop(1)
	write(t, d, 0, full(5))
	isLost(t, d, 0)
	write(t, d, 0, full(6))
	has(t, d, 0, full(6))
}

// P6.3: a write that is misled waits as one of the other sector, behind what
// waits there; one fault is for one write, and they come in order.
func TestMiss(t *testing.T) {
	d := device(t, 4)
	miss := func(at, to int) { fault(t, d, api.Fault{Kind: api.FaultMiss, At: at, To: to}) }
	write(t, d, 2, full(1)) // waits there ahead of it
	miss(0, 2)
	miss(0, 0)
	miss(0, 3)
	miss(1, 3)
	write(t, d, 0, full(2))
	has(t, d, 0, full(0))
	has(t, d, 2, full(2))
	write(t, d, 2, full(3))
	has(t, d, 2, full(3))
	write(t, d, 0, full(4))
	has(t, d, 0, full(4))
	write(t, d, 0, full(5))
	has(t, d, 0, full(4))
	has(t, d, 3, full(5))
	write(t, d, 1, full(6))
	has(t, d, 1, full(0))
	has(t, d, 3, full(6))
	write(t, d, 0, full(7))
	write(t, d, 1, full(8))
	for i, keep := range [][]bool{{true}, {false, true, false, false}, {false, false, false, false, true, false, false, false}} {
		c := d.Copy()
		c.Crash(keep)
		for a, b := range [][]byte{{7, 8, 3, 6}, {0, 0, 2, 6}, {0, 0, 0, 5}}[i] {
			has(t, c, a, full(b))
		}
	}
	flush(t, d)
	for a, b := range []byte{7, 8, 3, 6} {
		has(t, d, a, full(b))
	}
}

// P6.3: of a sector's writes first those are dropped that are to be, and then
// the others are misled; a write that is misled to a sector is none of that
// sector's own, of which others are to go wrong.
func TestDropAndMiss(t *testing.T) {
	for _, dropFirst := range []bool{true, false} {
		d := device(t, 3)
		faults := []api.Fault{{Kind: api.FaultDrop, At: 0, N: 2}, {Kind: api.FaultMiss, At: 0, To: 1}}
		if !dropFirst {
			slices.Reverse(faults)
		}
		for _, f := range faults {
			fault(t, d, f)
		}
		fault(t, d, api.Fault{Kind: api.FaultDrop, At: 1, N: 1})
		fault(t, d, api.Fault{Kind: api.FaultMiss, At: 1, To: 2})
		for i, want := range [][]byte{{0, 0, 0}, {0, 0, 0}, {0, 3, 0}, {4, 3, 0}} {
			write(t, d, 0, full(byte(i+1)))
			for a, b := range want {
				has(t, d, a, full(b))
			}
		}
		for i, want := range [][]byte{{4, 3, 0}, {4, 3, 6}, {4, 7, 6}} {
			write(t, d, 1, full(byte(i+5)))
			for a, b := range want {
				has(t, d, a, full(b))
			}
		}
	}
}

// P6.3: a write that was misled waits of the sector to which it came: a fault
// there does it, one of the sector that was meant does not.
func TestMissThenOtherFaults(t *testing.T) {
	d := device(t, 2)
	fault(t, d, api.Fault{Kind: api.FaultMiss, At: 0, To: 1})
	write(t, d, 0, full(5))
	fault(t, d, api.Fault{Kind: api.FaultRot, At: 0, Mask: [4]byte{1}})
	stays(t, d, 1, full(0))
	fault(t, d, api.Fault{Kind: api.FaultRot, At: 1, Mask: [4]byte{1}})
	stays(t, d, 1, rotted(full(5), 0, [4]byte{1}))
	has(t, d, 0, rotted(full(0), 0, [4]byte{1}))
}

// P6.4: the n-th write or flush from then on, from 0 on, kills it, and does
// nothing else; the others go on as ever.
func TestArm(t *testing.T) {
	for n := range 12 {
		d := device(t, 2)
		write(t, d, 0, full(200))
		d.Arm(n)
		for i := range n {
			if i%3 == 2 {
				flush(t, d)
			} else {
				write(t, d, 0, full(byte(i+1)))
			}
			if d.Dead() {
				t.Fatalf("armed with %d it is dead behind %d", n, i+1)
			}
			has(t, d, 0, full([]byte{byte(i + 1), byte(i + 1), byte(i)}[i%3])) // reads do not count
		}
		ops, ahead := d.Ops(), d.Copy()
		dies := d.Flush
		if n%2 == 0 {
			dies = func() api.Errno { return d.Write(0, full(99)) }
		}
		if err := dies(); err != api.ErrDead || !d.Dead() || d.Ops() != ops {
			t.Errorf("armed with %d: %d, dead %v, %d reads and writes behind %d", n, err, d.Dead(), d.Ops(), ops)
		}
		for range 3 {
			if err := dies(); err != api.ErrDead || !d.Dead() {
				t.Errorf("dead, %d", err)
			}
		}
		for _, keep := range [][]bool{nil, {true}} { // what waited waits on, and no more
			behind, want := d.Copy(), ahead.Copy()
			behind.Crash(keep)
			want.Crash(keep)
			s, _ := want.Read(0)
			has(t, behind, 0, s)
			has(t, behind, 1, full(0))
		}
	}
}

// P6.4: what would have another error does not count, nor what is no write and
// no flush; a write that is dropped, or misled, does.
func TestWhatCounts(t *testing.T) {
	d := device(t, 2)
	d.Arm(3)
	for range 5 {
		d.Write(2, full(1))
		d.Write(-1, full(1))
		d.Write(0, full(1)[1:])
		d.Read(0)
		d.Read(9)
		d.Fault(api.Fault{Kind: api.FaultRot, At: 1})
		d.Copy()
		d.Ops()
	}
	fault(t, d, api.Fault{Kind: api.FaultDrop, At: 0, N: 1})
	fault(t, d, api.Fault{Kind: api.FaultMiss, At: 0, To: 1})
	write(t, d, 0, full(1))
	write(t, d, 0, full(2))
	flush(t, d)
	for _, a := range noPlaces(2) {
		if err := d.Write(a, full(1)); err != api.ErrNone {
			t.Errorf("Write(%d): %d", a, err)
		}
	}
	if err := d.Write(0, nil); err != api.ErrArg || d.Dead() {
		t.Errorf("Write of nothing: %d", err)
	}
	if err := d.Write(1, full(3)); err != api.ErrDead || !d.Dead() {
		t.Errorf("Write: %d", err)
	}
	d.Crash(nil)
	has(t, d, 0, full(0))
	has(t, d, 1, full(2))
}

// P6.4: a write that kills the device is neither dropped nor misled: what is to
// go wrong is to go wrong with the next one.
func TestDyingTakesNoFault(t *testing.T) {
	d := device(t, 2)
	fault(t, d, api.Fault{Kind: api.FaultDrop, At: 0, N: 1})
	fault(t, d, api.Fault{Kind: api.FaultMiss, At: 0, To: 1})
	for i, want := range [][]byte{{0, 0}, {0, 2}, {3, 2}} {
		d.Arm(0)
		if err := d.Write(0, full(9)); err != api.ErrDead {
			t.Errorf("Write: %d", err)
		}
		d.Crash([]bool{true})
		write(t, d, 0, full(byte(i+1)))
		flush(t, d)
		for a, b := range want {
			has(t, d, a, full(b))
		}
	}
}

// P6.4: the last Arm is the one that holds, from then on; below 0 it is not
// armed, nor behind a crash.
func TestArmAgain(t *testing.T) {
	goesOn := func(d *disk.Disk) {
		t.Helper()
		for range 20 {
			write(t, d, 0, full(1))
			flush(t, d)
		}
	}
	for _, n := range []int{-1, -2, math.MinInt} {
		d := device(t, 1)
		d.Arm(n)
		goesOn(d)
		for _, first := range []int{0, 1, 5} {
			d.Arm(first)
			d.Arm(n)
			goesOn(d)
		}
	}
	d := device(t, 1)
	goesOn(d)
	d.Arm(math.MaxInt)
	goesOn(d)
	d.Arm(0)
	d.Crash(nil)
	goesOn(d)
	d.Arm(3)
	write(t, d, 0, full(1))
	d.Crash(nil)
	goesOn(d)
	d.Arm(1)
	write(t, d, 0, full(1))
	d.Arm(1)
	write(t, d, 0, full(1))
	if err := d.Flush(); err != api.ErrDead {
		t.Errorf("Flush: %d", err)
	}
	d.Arm(-1) // makes nothing alive
	if err := d.Flush(); err != api.ErrDead || !d.Dead() {
		t.Errorf("Flush of a dead one: %d, dead %v", err, d.Dead())
	}
	d.Arm(5)
	if err := d.Write(0, full(1)); err != api.ErrDead || !d.Dead() {
		t.Errorf("Write of a dead one: %d, dead %v", err, d.Dead())
	}
	d.Crash(nil)
	if d.Dead() {
		t.Errorf("it is dead behind a crash")
	}
	goesOn(d)
}

// P6.4: of what waits that is done for which keep, again and again from its
// beginning on, says so; the others are gone.
func TestCrash(t *testing.T) {
	for _, c := range []struct {
		keep []bool
		want []byte
	}{
		{nil, []byte{0, 0, 0}},
		{[]bool{}, []byte{0, 0, 0}},
		{[]bool{false}, []byte{0, 0, 0}},
		{[]bool{true}, []byte{6, 5, 4}},
		{[]bool{true, false}, []byte{1, 5, 3}},
		{[]bool{false, true}, []byte{6, 2, 4}},
		{[]bool{true, false, false}, []byte{1, 0, 4}},
		{[]bool{false, false, true}, []byte{6, 0, 3}},
		{[]bool{false, false, false, true}, []byte{0, 0, 4}},
		{[]bool{true, false, false, false, false, false}, []byte{1, 0, 0}},
		{[]bool{false, false, false, false, false, true, true, true}, []byte{6, 0, 0}},
		{[]bool{false, true, false, false, false, false, true}, []byte{0, 2, 0}},
	} {
		for _, dead := range []bool{false, true} {
			d := device(t, 3)
			for i, a := range []int{0, 1, 2, 2, 1, 0} {
				write(t, d, a, full(byte(i+1)))
			}
			if dead {
				d.Arm(0)
				d.Flush()
			}
			d.Crash(c.keep)
			if d.Dead() {
				t.Errorf("it is dead behind a crash")
			}
			for range 2 {
				for a, b := range c.want {
					has(t, d, a, full(b))
				}
				flush(t, d) // nothing waits any more
				d.Crash([]bool{true})
			}
		}
	}
}

// P6.4: a write that a crash keeps finds a sector again that was lost; one that
// it does not keep leaves it lost.
func TestCrashAndLostSectors(t *testing.T) {
	d := device(t, 2)
	for a := range 2 {
		fault(t, d, api.Fault{Kind: api.FaultLose, At: a})
		write(t, d, a, full(1))
	}
	d.Crash([]bool{false, true})
	isLost(t, d, 0)
	has(t, d, 1, full(1))
}

// P6.4: faults that are to come stay behind a crash.
func TestFaultsStayBehindACrash(t *testing.T) {
	d := device(t, 2)
	fault(t, d, api.Fault{Kind: api.FaultDrop, At: 0, N: 1})
	fault(t, d, api.Fault{Kind: api.FaultMiss, At: 0, To: 1})
	d.Crash(nil)
	d.Crash([]bool{true})
	write(t, d, 0, full(1))
	write(t, d, 0, full(2))
	has(t, d, 0, full(0))
	has(t, d, 1, full(2))
}

// P6.4: reads and writes that had no error but ErrBad count, nothing else does.
func TestOps(t *testing.T) {
	d := device(t, 2)
	count := func(name string, more int, do func()) {
		t.Helper()
		ahead := d.Ops()
		do()
		if d.Ops() != ahead+more {
			t.Errorf("%s: %d reads and writes behind %d", name, d.Ops(), ahead)
		}
	}
	drop := api.Fault{Kind: api.FaultDrop, At: 0, N: 1}
	count("a read", 1, func() { has(t, d, 0, full(0)) })
	count("a write", 1, func() { write(t, d, 0, full(1)) })
	count("a read of what waits", 1, func() { has(t, d, 0, full(1)) })
	count("a flush", 0, func() { flush(t, d) })
	count("a fault", 0, func() { fault(t, d, drop) })
	count("a write that is dropped", 1, func() { write(t, d, 0, full(2)) })
	count("a fault", 0, func() { fault(t, d, api.Fault{Kind: api.FaultMiss, At: 0, To: 1}) })
	count("a write that is misled", 1, func() { write(t, d, 0, full(2)) })
	count("a loss", 0, func() { fault(t, d, api.Fault{Kind: api.FaultLose, At: 0}) })
	count("a read of a lost one", 1, func() { isLost(t, d, 0) })
	count("reads of no sector", 0, func() { d.Read(-1); d.Read(2) })
	count("writes of no sector", 0, func() { d.Write(-1, full(0)); d.Write(2, full(0)) })
	count("writes of no sector's bytes", 0, func() { d.Write(0, nil); d.Write(0, make([]byte, 257)) })
	count("a copy", 0, func() { c := d.Copy(); c.Read(0); c.Write(0, full(0)) })
	count("a death", 0, func() { d.Arm(0); d.Write(0, full(0)) })
	count("a dead one", 0, func() { d.Read(0); d.Write(0, full(0)); d.Flush() })
	count("a crash", 0, func() { d.Crash([]bool{true}) })
	count("a read behind it", 1, func() { d.Read(0) })
}

// all is all that is to be seen of a device; it stays as it is.
func all(d *disk.Disk) ([][]byte, []api.Errno, int, bool) {
	c := d.Copy()
	c.Crash([]bool{true}) // what is dead tells nothing
	l, errs := make([][]byte, d.Len()), make([]api.Errno, d.Len())
	for a := range l {
		l[a], errs[a] = c.Read(a)
	}
	return l, errs, d.Ops(), d.Dead()
}

func same(t *testing.T, d, e *disk.Disk) {
	t.Helper()
	l, errs, ops, dead := all(d)
	m, others, otherOps, otherDead := all(e)
	if !slices.EqualFunc(l, m, bytes.Equal) || !slices.Equal(errs, others) || ops != otherOps || dead != otherDead {
		t.Fatalf("they are not the same: %v %v %d %v and %v %v %d %v", l, errs, ops, dead, m, others, otherOps, otherDead)
	}
}

// P6.4: a copy is just as the device in all that goes on with either, and what
// is done to one is not done to the other.
func TestCopy(t *testing.T) {
	r := mixed(2)
	for seed := range uint64(400) {
		n := 1 + r.IntN(4)
		d := device(t, n)
		for range r.IntN(30) {
			someStep(r, n)(d)
		}
		c := d.Copy()
		same(t, d, c)
		for _, one := range []*disk.Disk{c, c.Copy()} { // turns the copies, and leaves d
			l, errs, ops, dead := all(d)
			steps := mixed(seed + 1000)
			for range 30 {
				someStep(steps, n)(one)
			}
			m, others, otherOps, otherDead := all(d)
			if !slices.EqualFunc(l, m, bytes.Equal) || !slices.Equal(errs, others) || ops != otherOps || dead != otherDead {
				t.Fatalf("it was turned with its copy")
			}
		}
		twin, one, two := d.Copy(), mixed(seed), mixed(seed)
		for range 40 {
			someStep(one, n)(d)
			someStep(two, n)(twin)
			same(t, d, twin)
		}
	}
}

// P6.4: what waits of a copy, and of the device, waits by itself.
func TestCopyWaitsByItself(t *testing.T) {
	for many := range 20 {
		d := device(t, 2)
		for i := range many {
			write(t, d, 1, full(byte(i+1)))
		}
		c := d.Copy()
		write(t, d, 0, full(100))
		write(t, c, 0, full(200))
		write(t, c, 1, full(201))
		write(t, d, 1, full(101))
		for _, flushed := range []bool{false, true} {
			if flushed {
				flush(t, d)
				flush(t, c)
			}
			for a := range 2 {
				has(t, d, a, full(byte(100+a)))
				has(t, c, a, full(byte(200+a)))
			}
		}
	}
}

// P6.4: a copy has faults of its own that are to come.
func TestCopyHasItsOwnFaults(t *testing.T) {
	miss := func(d *disk.Disk, to int) { fault(t, d, api.Fault{Kind: api.FaultMiss, At: 0, To: to}) }
	d := device(t, 5)
	for range 3 {
		miss(d, 1)
	}
	write(t, d, 0, full(9))
	c := d.Copy()
	miss(c, 2)
	miss(d, 3)
	for i := range 3 {
		write(t, d, 0, full(byte(i+1)))
		write(t, c, 0, full(byte(i+11)))
	}
	for a, b := range []byte{0, 2, 0, 3, 0} {
		has(t, d, a, full(b))
	}
	for a, b := range []byte{0, 12, 13, 0, 0} {
		has(t, c, a, full(b))
	}
}

// P6.5, P6.4: a nil Disk has no sectors, and is dead, whatever is done to it;
// its copy is nil.
func TestNilDisk(t *testing.T) {
	var d *disk.Disk
	for range 2 {
		if n := d.Len(); n != 0 {
			t.Errorf("Len() = %d", n)
		}
		for _, a := range []int{0, 1, -1, math.MinInt, math.MaxInt} {
			if s, err := d.Read(a); len(s) != 0 || err != api.ErrDead {
				t.Errorf("Read(%d) = %v, %d", a, s, err)
			}
			for _, s := range [][]byte{nil, full(1), make([]byte, 257)} {
				if err := d.Write(a, s); err != api.ErrDead {
					t.Errorf("Write(%d): %d", a, err)
				}
			}
			for kind := -1; kind <= 6; kind++ {
				if err := d.Fault(api.Fault{Kind: kind, At: a, To: a}); err != api.ErrNone {
					t.Errorf("Fault of kind %d at %d: %d", kind, a, err)
				}
			}
			d.Arm(a)
		}
		if err := d.Flush(); err != api.ErrDead {
			t.Errorf("Flush: %d", err)
		}
		if !d.Dead() || d.Ops() != 0 || d.Copy() != nil {
			t.Errorf("dead %v, %d, %v", d.Dead(), d.Ops(), d.Copy())
		}
		d.Crash(nil)
		d.Crash([]bool{true})
	}
}

// R1: a zero Disk has no sectors; it is as one of which no call was made.
func TestZeroDisk(t *testing.T) {
	for _, d := range []*disk.Disk{{}, new(disk.Disk).Copy()} {
		if d.Len() != 0 || d.Dead() || d.Ops() != 0 {
			t.Errorf("%d sectors, dead %v, %d reads and writes", d.Len(), d.Dead(), d.Ops())
		}
		for range 2 {
			for _, a := range []int{0, -1, math.MaxInt} {
				if s, err := d.Read(a); len(s) != 0 || err != api.ErrNone {
					t.Errorf("Read(%d) = %v, %d", a, s, err)
				}
				if err := d.Write(a, full(1)); err != api.ErrNone {
					t.Errorf("Write(%d): %d", a, err)
				}
				for kind := -1; kind <= 6; kind++ {
					if err := d.Fault(api.Fault{Kind: kind, At: a}); err != api.ErrNone {
						t.Errorf("Fault of kind %d at %d: %d", kind, a, err)
					}
				}
			}
			flush(t, d)
			d.Arm(0)
			if err := d.Flush(); err != api.ErrDead || !d.Dead() {
				t.Errorf("Flush: %d, dead %v", err, d.Dead())
			}
			d.Crash([]bool{true})
		}
	}
}

// P6.6: what was flushed stays, whatever is done to other sectors.
func TestWhatWasFlushedStays(t *testing.T) {
	r := mixed(3)
	for range 200 {
		n := 2 + r.IntN(4)
		d := device(t, n)
		s := some(r)
		write(t, d, 0, s)
		flush(t, d)
		for range 60 {
			spares(r, n)(d)
			c := d.Copy()
			c.Crash([]bool{true})
			has(t, c, 0, s)
			stays(t, d, 0, s)
		}
	}
}

// spares is a step that does nothing to sector 0.
func spares(r *rand.Rand, n int) func(*disk.Disk) {
	a, to := 1+r.IntN(n-1), 1+r.IntN(n-1)
	switch r.IntN(5) {
	case 0:
		return func(d *disk.Disk) { d.Flush() }
	case 1:
		keep := []bool{r.IntN(2) == 0}
		return func(d *disk.Disk) { d.Crash(keep) }
	case 2:
		f := api.Fault{Kind: 1 + r.IntN(5), At: a, Off: r.IntN(256), N: 1, To: to, Mask: [4]byte{1, 2, 3, 4}}
		return func(d *disk.Disk) { d.Fault(f) }
	case 3:
		k := r.IntN(8) - 1
		return func(d *disk.Disk) { d.Arm(k) }
	}
	s := some(r)
	return func(d *disk.Disk) { d.Write(a, s) }
}

// P6.6: without faults it is as good as a list of sectors; a crash that keeps
// nothing brings that list back as it was flushed.
func TestAsGoodAsAList(t *testing.T) {
	r := mixed(4)
	for range 100 {
		n := 1 + r.IntN(6)
		d := device(t, n)
		list, flushed := make([][]byte, n), make([][]byte, n)
		for a := range n {
			list[a], flushed[a] = full(0), full(0)
		}
		for range 100 {
			a := r.IntN(n)
			switch r.IntN(8) {
			case 0:
				flush(t, d)
				flushed = slices.Clone(list)
			case 1:
				d.Crash(nil)
				list = slices.Clone(flushed)
			case 2, 3, 4:
				list[a] = some(r)
				write(t, d, a, list[a])
			default:
				has(t, d, a, list[a])
			}
		}
		for a := range n {
			has(t, d, a, list[a])
			stays(t, d, a, flushed[a])
		}
	}
}

// R3: what is handed in stays, and later changes of it change nothing.
func TestWhatIsHandedInStays(t *testing.T) {
	memory := some(mixed(5))
	memory = append(memory, some(mixed(6))...)
	ahead := slices.Clone(memory)
	d := device(t, 2)
	write(t, d, 0, memory[:256])
	write(t, d, 1, memory[:256])
	flush(t, d)
	write(t, d, 1, memory[256:])
	fault(t, d, api.Fault{Kind: api.FaultRot, At: 0, Mask: [4]byte{255, 255, 255, 255}})
	fault(t, d, api.Fault{Kind: api.FaultBlank, At: 0})
	keep := []bool{true, false}
	d.Copy().Crash(keep)
	if !bytes.Equal(memory, ahead) || !keep[0] || keep[1] {
		t.Fatalf("it was changed")
	}
	clear(memory)
	clear(keep)
	has(t, d, 0, full(0))
	has(t, d, 1, ahead[256:])
	stays(t, d, 1, ahead[:256])
}

// R3: what is answered is the caller's own, whether it waits or not.
func TestWhatIsAnsweredIsTheCallersOwn(t *testing.T) {
	d := device(t, 2)
	s := some(mixed(7))
	write(t, d, 0, s)
	for range 2 {
		one, _ := d.Read(0)
		two, _ := d.Read(0)
		clear(one)
		_ = append(one, full(9)...)
		if !bytes.Equal(two, s) {
			t.Errorf("two answers share what they have")
		}
		has(t, d, 0, s)
		has(t, d, 1, full(0))
		fault(t, d, api.Fault{Kind: api.FaultRot, At: 1, Mask: [4]byte{1}})
		fault(t, d, api.Fault{Kind: api.FaultRot, At: 1, Mask: [4]byte{1}})
		flush(t, d)
		if !bytes.Equal(two, s) {
			t.Errorf("an answer was changed")
		}
	}
	one, _ := d.Read(0)
	fault(t, d, api.Fault{Kind: api.FaultBlank, At: 0})
	if !bytes.Equal(one, s) {
		t.Errorf("an answer was changed by a fault")
	}
}

// R5: one device knows nothing of another.
func TestNothingIsShared(t *testing.T) {
	d, e := device(t, 2), device(t, 2)
	write(t, d, 0, full(1))
	fault(t, d, api.Fault{Kind: api.FaultDrop, At: 1, N: 9})
	fault(t, d, api.Fault{Kind: api.FaultLose, At: 1})
	d.Arm(0)
	d.Flush()
	write(t, e, 1, full(2))
	flush(t, e)
	has(t, e, 0, full(0))
	has(t, e, 1, full(2))
	if e.Ops() != 3 || e.Dead() {
		t.Errorf("%d reads and writes, dead %v", e.Ops(), e.Dead())
	}
}

// one is any of what it is given.
func one[T any](r *rand.Rand, of ...T) T { return of[r.IntN(len(of))] }

// someFault is a fault of a device of n sectors, which may be one or not.
func someFault(r *rand.Rand, n int) api.Fault {
	f := api.Fault{Kind: r.IntN(5) + 1, At: r.IntN(n), Off: one(r, 0, 1, 100, 252, 253, 255), N: 1 + r.IntN(3), To: r.IntN(n)}
	for i := range f.Mask {
		f.Mask[i] = byte(r.Uint32())
	}
	switch r.IntN(20) {
	case 0:
		f.Kind = one(r, 0, -1, 6, math.MinInt, math.MaxInt)
	case 1:
		f.At = one(r, noPlaces(n)...)
	case 2:
		f.Off = one(r, -1, 256, math.MinInt, math.MaxInt)
	case 3:
		f.N = one(r, 0, -1, 1001, math.MinInt, math.MaxInt)
	case 4:
		f.To = one(r, noPlaces(n)...)
	}
	return f
}

func someKeep(r *rand.Rand) []bool {
	keep := make([]bool, r.IntN(6))
	for i := range keep {
		keep[i] = r.IntN(2) == 0
	}
	return keep
}

// anyDevice is what a device and its reckoning have in common.
type anyDevice interface {
	Read(a int) ([]byte, api.Errno)
	Write(a int, s []byte) api.Errno
	Flush() api.Errno
	Fault(f api.Fault) api.Errno
	Arm(n int)
	Crash(keep []bool)
}

// told is what a step answered.
type told struct {
	s   string
	err api.Errno
}

// someStep is a call, with arguments that may be wrong.
func someStep(r *rand.Rand, n int) func(anyDevice) told {
	a := r.IntN(n)
	if r.IntN(20) == 0 {
		a = one(r, noPlaces(n)...)
	}
	switch r.IntN(12) {
	case 0:
		return func(d anyDevice) told { return told{err: d.Flush()} }
	case 1, 2, 3:
		f := someFault(r, n)
		return func(d anyDevice) told { return told{err: d.Fault(f)} }
	case 4:
		k := one(r, 0, 1, 2, 3, 8, 8, -1, -1, math.MinInt, math.MaxInt)
		return func(d anyDevice) told { d.Arm(k); return told{} }
	case 5:
		keep := someKeep(r)
		return func(d anyDevice) told { d.Crash(keep); return told{} }
	case 6, 7:
		return func(d anyDevice) told {
			s, err := d.Read(a)
			return told{string(s), err}
		}
	}
	s := some(r)
	if r.IntN(20) == 0 {
		s = make([]byte, one(r, 0, 1, 255, 257, 512))
	}
	return func(d anyDevice) told { return told{err: d.Write(a, s)} }
}
