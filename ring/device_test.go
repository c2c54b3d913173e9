package ring_test

import (
	"bytes"
	"slices"
	"testing"

	"quartermaster/api"
	"quartermaster/disk"
	"quartermaster/ring"
)

// sector is one of 256 times the same byte: it is no block.
func sector(b byte) []byte { return bytes.Repeat([]byte{b}, 256) }

// free is a sector that is clean, and tells no piece.
func free(v, a int) []byte { return sealed(api.Block{Kind: 1, Volume: v, Addr: a}) }

// freeMirror is a mirror of which each sector is free.
func freeMirror(v int, g api.Geo, mirror int) [][]byte {
	var l [][]byte
	for slot := range g.Wal {
		l = append(l, free(v, at(g, mirror, slot)))
	}
	return l
}

// device is one as g lays it out, of which each sector is free; nothing waits.
func device(t *testing.T, g api.Geo) *disk.Disk {
	t.Helper()
	n := 4 + 2*g.Wal + 2*g.Stripes*(g.K+g.M)
	d, err := disk.New(n)
	if err != api.OK {
		t.Fatalf("New(%d): %d", n, err)
	}
	for a := range n {
		write(t, d, a, free(volume, a))
	}
	if err := d.Flush(); err != api.OK {
		t.Fatalf("Flush(): %d", err)
	}
	return d
}

func write(t *testing.T, d *disk.Disk, a int, s []byte) {
	t.Helper()
	if err := d.Write(a, s); err != api.OK {
		t.Fatalf("Write(%d): %d", a, err)
	}
}

func fault(t *testing.T, d *disk.Disk, l ...api.Fault) {
	t.Helper()
	for _, f := range l {
		if err := d.Fault(f); err != api.OK {
			t.Fatalf("Fault(%v): %d", f, err)
		}
	}
}

func drop(a, n int) api.Fault  { return api.Fault{Kind: api.FaultDrop, At: a, N: n} }
func miss(a, to int) api.Fault { return api.Fault{Kind: api.FaultMiss, At: a, To: to} }
func lose(a int) api.Fault     { return api.Fault{Kind: api.FaultLose, At: a} }
func blank(a int) api.Fault    { return api.Fault{Kind: api.FaultBlank, At: a} }

// rot changes up to four bytes.
func rot(a, off int) api.Fault {
	return api.Fault{Kind: api.FaultRot, At: a, Off: off, Mask: [4]byte{1, 255, 0, 16}}
}

// newRing is one of the volume.
func newRing(t *testing.T, d *disk.Disk, g api.Geo, epoch, start, next, chain int) *ring.Ring {
	t.Helper()
	r, err := ring.New(d, volume, g, epoch, start, next, chain)
	if err != api.OK || r == nil {
		t.Fatalf("New(%v, %d, %d, %d, %d): %d", g, epoch, start, next, chain, err)
	}
	stands(t, r, next, chain)
	return r
}

// stands looks at how far a log is.
func stands(t *testing.T, r *ring.Ring, next, chain int) {
	t.Helper()
	if r.Next() != next || r.Chain() != chain {
		t.Errorf("Next is %d, Chain %d, not %d, %d", r.Next(), r.Chain(), next, chain)
	}
}

// appends calls what is to be tested, and looks at what it answers, at how many
// reads and writes that took, and at whether the transaction stays.
func appends(t *testing.T, r *ring.Ring, d *disk.Disk, tx []byte, want api.Errno, ops int) {
	t.Helper()
	before, was := d.Ops(), bytes.Clone(tx)
	err := r.Append(tx)
	if took := d.Ops() - before; err != want || took != ops {
		t.Errorf("Append of %d bytes: %d by %d reads and writes, not %d by %d", len(tx), err, took, want, ops)
	}
	if !bytes.Equal(tx, was) {
		t.Errorf("Append of %d bytes changes them", len(tx))
	}
}

// alike looks at whether two devices are the same: now, and behind a crash that
// keeps nothing, and whether as much was read and written of both.
func alike(t *testing.T, d, e *disk.Disk) {
	t.Helper()
	if d.Ops() != e.Ops() || d.Dead() != e.Dead() || d.Len() != e.Len() {
		t.Fatalf("%d reads and writes, dead %v, not %d, %v", d.Ops(), d.Dead(), e.Ops(), e.Dead())
	}
	for _, keeps := range []bool{true, false} {
		d, e := d.Copy(), e.Copy()
		d.Crash([]bool{keeps})
		e.Crash([]bool{keeps})
		for a := range d.Len() {
			s, err := d.Read(a)
			if want, errWant := e.Read(a); err != errWant || !bytes.Equal(s, want) {
				t.Fatalf("behind a crash (%v) the sector %d has %v (%d), not %v (%d)", keeps, a, s, err, want, errWant)
			}
		}
	}
}

// has looks at what a device has, behind a crash that keeps nothing: these, and all
// else as it was made.
func has(t *testing.T, d *disk.Disk, l ...api.Put) {
	t.Helper()
	want := map[int][]byte{}
	for _, p := range l {
		want[p.At] = p.S
	}
	c := d.Copy()
	c.Crash(nil)
	for a := range c.Len() {
		s, err := c.Read(a)
		if want[a] == nil {
			want[a] = free(volume, a)
		}
		if err != api.OK || !bytes.Equal(s, want[a]) {
			t.Errorf("the sector %d has %v (%d), not %v", a, s, err, want[a])
		}
	}
}

// clones are two mirrors as they are, to look later whether they stay.
func clones(l [][]byte) [][]byte {
	c := slices.Clone(l)
	for i := range c {
		c[i] = bytes.Clone(l[i])
	}
	return c
}

// follow calls what is to be tested, and looks at what it answers, and at whether
// the mirrors stay.
func follow(t *testing.T, a, b [][]byte, v int, g api.Geo, start, chain int, want api.Tail, errWant api.Errno) {
	t.Helper()
	wasA, wasB := clones(a), clones(b)
	tail, err := ring.Follow(a, b, v, g, start, chain)
	if err != errWant || !sameTail(tail, want) {
		t.Errorf("Follow from %d, %d: %v, %d, not %v, %d", start, chain, tail, err, want, errWant)
	}
	if err != api.OK && tail.Txs != nil {
		t.Errorf("Follow: transactions beside an error: %v", tail.Txs)
	}
	if !slices.EqualFunc(a, wasA, bytes.Equal) || !slices.EqualFunc(b, wasB, bytes.Equal) {
		t.Error("Follow changes what is handed in")
	}
}

func sameTail(t, z api.Tail) bool {
	return t.Next == z.Next && t.Chain == z.Chain && t.Epoch == z.Epoch && slices.EqualFunc(t.Txs, z.Txs, bytes.Equal)
}

// tells looks at what a device's log tells.
func tells(t *testing.T, d *disk.Disk, g api.Geo, start, chain int, want api.Tail) {
	t.Helper()
	a, b := load(t, d, g)
	follow(t, a, b, volume, g, start, chain, want, api.OK)
}

// tooMuch looks at whether a device's log tells that too much is damaged.
func tooMuch(t *testing.T, d *disk.Disk, g api.Geo, start, chain int) {
	t.Helper()
	a, b := load(t, d, g)
	follow(t, a, b, volume, g, start, chain, api.Tail{}, api.ErrDamaged)
}

// txs are transactions of so many bytes, each of its own.
func txs(sizes ...int) [][]byte {
	var l [][]byte
	for i, n := range sizes {
		tx := bytes.Repeat([]byte{byte(10 + i)}, n)
		for k := range tx {
			tx[k] += byte(k % 199) // so that no two pieces of it are the same
		}
		l = append(l, tx)
	}
	return l
}
