package disk_test

import (
	"bytes"
	"maps"
	"math"
	"slices"
	"testing"

	"quartermaster/api"
	"quartermaster/disk"
)

// reckoned is a device by the words of the chapter alone: what each sector has
// (noughts, where nothing is told), and in order what waits and what is to go
// wrong, write by write.
type reckoned struct {
	n, ops, until int // until: -1, if it is not armed
	dead          bool
	cells         map[int]cell
	line          []waiting
	coming        []mishap
}

type cell struct {
	s    string
	lost bool
}

type waiting struct {
	at int
	s  string
}

type mishap struct {
	of, to int
	drops  bool
}

func reckon(n int) *reckoned {
	m := &reckoned{n: n, until: -1, cells: map[int]cell{}}
	for a := range n {
		m.cells[a] = cell{s: string(full(0))}
	}
	return m
}

// when are the sectors when those writes are done that wait and are picked.
func (m *reckoned) when(picked func(i int, w waiting) bool) map[int]cell {
	cells := maps.Clone(m.cells)
	for i, w := range m.line {
		if picked(i, w) {
			cells[w.at] = cell{s: w.s}
		}
	}
	return cells
}

func (m *reckoned) wrong(a int) api.Errno {
	switch {
	case m.dead:
		return api.ErrDead
	case a < 0 || a >= m.n:
		return api.ErrNone
	}
	return api.OK
}

func (m *reckoned) kills() bool {
	m.dead = m.until == 0
	m.until = max(m.until-1, -1)
	return m.dead
}

func (m *reckoned) Read(a int) ([]byte, api.Errno) {
	if err := m.wrong(a); err != api.OK {
		return nil, err
	}
	m.ops++
	c := m.when(func(int, waiting) bool { return true })[a] // as if all were done
	if c.lost {
		return nil, api.ErrBad
	}
	return []byte(c.s), api.OK
}

func (m *reckoned) Write(a int, s []byte) api.Errno {
	if err := m.wrong(a); err != api.OK {
		return err
	}
	if len(s) != 256 {
		return api.ErrArg
	}
	if m.kills() {
		return api.ErrDead
	}
	m.ops++
	i := slices.IndexFunc(m.coming, func(x mishap) bool { return x.of == a && x.drops })
	if i >= 0 {
		m.coming = slices.Delete(m.coming, i, i+1)
		return api.OK
	}
	to := a
	if i := slices.IndexFunc(m.coming, func(x mishap) bool { return x.of == a }); i >= 0 {
		to = m.coming[i].to
		m.coming = slices.Delete(m.coming, i, i+1)
	}
	m.line = append(m.line, waiting{to, string(s)})
	return api.OK
}

func (m *reckoned) Flush() api.Errno {
	if m.dead || m.kills() {
		return api.ErrDead
	}
	m.cells = m.when(func(int, waiting) bool { return true })
	m.line = nil
	return api.OK
}

func (m *reckoned) Fault(f api.Fault) api.Errno {
	isThere := func(a int) bool { return a >= 0 && a < m.n }
	switch {
	case !isThere(f.At):
		return api.ErrNone
	case f.Kind < 1 || f.Kind > 5, f.Kind == 1 && (f.Off < 0 || f.Off > 255), f.Kind == 4 && (f.N < 1 || f.N > 1000):
		return api.ErrArg
	case f.Kind == 5 && !isThere(f.To):
		return api.ErrNone
	case f.Kind == 4:
		m.coming = append(m.coming, slices.Repeat([]mishap{{of: f.At, drops: true}}, f.N)...)
		return api.OK
	case f.Kind == 5:
		m.coming = append(m.coming, mishap{of: f.At, to: f.To})
		return api.OK
	}
	ofIt := func(w waiting) bool { return w.at == f.At }
	m.cells = m.when(func(_ int, w waiting) bool { return ofIt(w) })
	m.line = slices.DeleteFunc(m.line, ofIt)
	c := m.cells[f.At]
	switch f.Kind {
	case 1:
		c.s = string(rotted([]byte(c.s), f.Off, f.Mask))
	case 2:
		c = cell{s: string(full(0))}
	case 3:
		c.lost = true
	}
	m.cells[f.At] = c
	return api.OK
}

func (m *reckoned) Arm(n int) { m.until = max(n, -1) }

func (m *reckoned) Crash(keep []bool) {
	m.cells = m.when(func(i int, _ waiting) bool { return len(keep) > 0 && keep[i%len(keep)] })
	m.line, m.dead, m.until = nil, false, -1
}

func (m *reckoned) copied() *reckoned {
	c := *m
	c.cells, c.line, c.coming = maps.Clone(m.cells), slices.Clone(m.line), slices.Clone(m.coming)
	return &c
}

// asReckoned looks at all sectors, and at what other calls tell; neither is turned.
func asReckoned(t *testing.T, d *disk.Disk, m *reckoned) {
	t.Helper()
	if d.Len() != m.n || d.Dead() != m.dead || d.Ops() != m.ops {
		t.Fatalf("%d sectors, dead %v, %d reads and writes, not %d, %v, %d", d.Len(), d.Dead(), d.Ops(), m.n, m.dead, m.ops)
	}
	for i, keep := range [][]bool{nil, {true}, {true, false}} {
		c, w := d.Copy(), m.copied()
		if i > 0 || m.dead {
			c.Crash(keep)
			w.Crash(keep)
		}
		for a := range m.n {
			s, err := c.Read(a)
			want, wantErr := w.Read(a)
			if err != wantErr || !bytes.Equal(s, want) {
				t.Fatalf("Read(%d) behind a crash that keeps %v: %s, %d, not %s, %d", a, keep, brief(s), err, brief(want), wantErr)
			}
		}
	}
}

// P6.1 to P6.6: whatever is called, one behind the other, all is as the chapter
// reckons it, and a copy goes on as the device would.
func TestAsReckoned(t *testing.T) {
	r := mixed(8)
	for range 1500 {
		n := 1 + r.IntN(5)
		d, m := device(t, n), reckon(n)
		asReckoned(t, d, m)
		for range 50 {
			step := someStep(r, n)
			if have, want := step(d), step(m); have != want {
				t.Fatalf("it answered %s, %d, not %s, %d", brief([]byte(have.s)), have.err, brief([]byte(want.s)), want.err)
			}
			asReckoned(t, d, m)
			if r.IntN(10) == 0 {
				old := d
				d = d.Copy()
				for range 5 { // turns the old one, of which d is to know nothing
					someStep(r, n)(old)
				}
				asReckoned(t, d, m)
			}
		}
	}
}

// P6.4: the same of devices on which much waits: what a crash keeps is told
// by the place in which it waits, also behind faults that did some of it.
func TestCrashAsReckoned(t *testing.T) {
	r := mixed(9)
	for range 400 {
		n := 2 + r.IntN(5)
		d, m := device(t, n), reckon(n)
		for range 5 {
			for range r.IntN(30) {
				a, s := r.IntN(n), some(r)
				if d.Write(a, s) != m.Write(a, s) {
					t.Fatalf("Write(%d)", a)
				}
			}
			for range r.IntN(3) {
				f := someFault(r, n)
				if d.Fault(f) != m.Fault(f) {
					t.Fatalf("Fault(%v)", f)
				}
			}
			keep := someKeep(r)
			d.Crash(keep)
			m.Crash(keep)
			asReckoned(t, d, m)
		}
	}
}

// P1, R1, R4: each call ends, whatever it is given, none panics, and with an
// error there is nothing else.
func TestAnyArguments(t *testing.T) {
	ints := []int{0, 1, -1, 2, 3, 4, 5, 255, 256, 1000, 1001, 4095, 4096, 4097, 1 << 31, 1 << 32, math.MaxInt, math.MinInt, math.MinInt + 1}
	r := mixed(10)
	for _, n := range ints {
		d, err := disk.New(n)
		if (d == nil) != (err != api.OK) {
			t.Errorf("New(%d) = %v, %d", n, d, err)
		}
		for _, one := range []*disk.Disk{d, nil, {}} {
			for _, a := range ints {
				for _, b := range ints {
					one.Fault(api.Fault{Kind: r.IntN(8) - 1, At: a, Off: b, N: ints[r.IntN(len(ints))], To: ints[r.IntN(len(ints))], Mask: [4]byte{1, 2, 3, 4}})
				}
				one.Write(a, make([]byte, r.IntN(3)+255))
				if s, err := one.Read(a); (err == api.OK) != (len(s) == api.Sector) || err != api.OK && len(s) != 0 {
					t.Errorf("Read(%d) = %v, %d", a, s, err)
				}
				one.Arm(a)
				one.Flush()
				one.Crash(someKeep(r))
			}
		}
	}
}
