package keep_test

import (
	"math"
	"math/rand/v2"
	"slices"
	"testing"

	"quartermaster/api"
	"quartermaster/disk"
	"quartermaster/keep"
)

// reckoned is a device as it is reckoned: what is there of each sector, what has
// to be there behind a crash, and where its next writes go, one by one.
type reckoned struct {
	now, durable []string
	ways         [][]int // of each sector: -1, where a write is dropped
	until, ops   int     // until: how many writes and flushes go well; -1, if all
	dead         bool
}

// gone stands for what a sector has that is lost.
const gone = "gone"

// write, flush and read count down and up as a device does; of its words no more
// is reckoned than keep may come upon.
func (m *reckoned) write(a int, s string) api.Errno {
	switch {
	case m.dead:
		return api.ErrDead
	case a < 0 || a >= len(m.now):
		return api.ErrNone
	case len(s) != 256:
		return api.ErrArg
	case m.dies():
		return api.ErrDead
	}
	m.ops++
	to := a
	if len(m.ways[a]) > 0 {
		to, m.ways[a] = m.ways[a][0], m.ways[a][1:]
	}
	if to >= 0 {
		m.now[to] = s
	}
	return api.OK
}

func (m *reckoned) flush() api.Errno {
	if m.dies() {
		return api.ErrDead
	}
	m.durable = slices.Clone(m.now)
	return api.OK
}

func (m *reckoned) dies() bool {
	m.dead = m.dead || m.until == 0
	m.until = max(m.until-1, -1)
	return m.dead
}

// one is P9.1, from a try on.
func (m *reckoned) one(p api.Put, try int) api.Errno {
	if err := m.write(p.At, string(p.S)); err != api.OK {
		return err
	}
	if err := m.flush(); err != api.OK {
		return err
	}
	m.ops++
	switch {
	case m.now[p.At] == string(p.S):
		return api.OK
	case try == 4:
		return api.ErrDamaged
	}
	return m.one(p, try+1)
}

// all and mend are P9.2.
func (m *reckoned) all(l []api.Put) api.Errno {
	if len(l) == 0 {
		return api.OK
	}
	if err := m.one(l[0], 1); err != api.OK {
		return err
	}
	return m.all(l[1:])
}

func (m *reckoned) mend(l []api.Put, written int) (int, api.Errno) {
	if len(l) == 0 {
		return written, api.OK
	}
	switch p := l[0]; {
	case m.dead:
		return written, api.ErrDead
	case p.At < 0 || p.At >= len(m.now):
		return written, api.ErrNone
	case m.now[p.At] == string(p.S):
		m.ops++
	default:
		m.ops++
		if err := m.one(p, 1); err != api.OK {
			return written, err
		}
		written++
	}
	return m.mend(l[1:], written)
}

// hurt lets the same go wrong with a device and with its reckoning.
func hurt(t *testing.T, r *rand.Rand, d *disk.Disk, m *reckoned) {
	t.Helper()
	a, n := r.IntN(len(m.now)), 1+r.IntN(5)
	switch r.IntN(5) {
	case 0:
		fault(t, d, drop(a, n))
		m.ways[a] = append(slices.Repeat([]int{-1}, n), m.ways[a]...) // ahead of the misses
	case 1, 2:
		for range n {
			to := r.IntN(len(m.now))
			fault(t, d, miss(a, to))
			m.ways[a] = append(m.ways[a], to)
		}
	case 3:
		fault(t, d, lose(a))
		m.now[a], m.durable[a] = gone, gone
	case 4:
		fault(t, d, blank(a))
		m.now[a], m.durable[a] = string(full(0)), string(full(0))
	}
}

// somePuts are writes of few sectors and few bytes, so that the same come again;
// now and then one that may not be.
func somePuts(r *rand.Rand, n int) []api.Put {
	l := make([]api.Put, r.IntN(6))
	for i := range l {
		l[i] = put(r.IntN(n), byte(r.IntN(3)))
		if r.IntN(30) == 0 {
			l[i].S = noSectors()[r.IntN(len(noSectors()))]
		}
		if r.IntN(30) == 0 {
			l[i].At = noPlaces(n)[r.IntN(len(noPlaces(n)))]
		}
	}
	return l
}

// asReckoned looks at all of a device, which may be dead: at what is there, and at
// what is there behind a crash with nothing kept.
func asReckoned(t *testing.T, d *disk.Disk, m *reckoned) {
	t.Helper()
	if d.Ops() != m.ops || d.Dead() != m.dead {
		t.Fatalf("%d reads and writes, dead %v, not %d, %v", d.Ops(), d.Dead(), m.ops, m.dead)
	}
	for _, keeps := range []bool{false, true} {
		c, want := d.Copy(), m.durable
		c.Crash([]bool{keeps})
		if keeps {
			want = m.now
		}
		for a := range m.now {
			s, err := c.Read(a)
			if err == api.ErrBad {
				s = []byte(gone)
			}
			if string(s) != want[a] {
				t.Fatalf("the sector %d has %s (%d), not %s", a, brief(s), err, brief([]byte(want[a])))
			}
		}
	}
}

// P9.1, P9.2, P9.3, R5: whatever goes wrong, and whatever was called ahead, each
// call answers as it is reckoned by the chapter's words, and leaves the device so.
func TestAsReckoned(t *testing.T) {
	r := rand.New(rand.NewPCG(1, 9))
	for range 3000 {
		n := 1 + r.IntN(5)
		d, m := device(t, n), &reckoned{ways: make([][]int, n), until: -1, ops: n}
		for a := range n {
			m.now = append(m.now, string(old(a)))
		}
		m.durable = slices.Clone(m.now)
		for range 12 {
			for range r.IntN(4) {
				hurt(t, r, d, m)
			}
			if r.IntN(3) == 0 {
				m.until = r.IntN(30) - 1
				d.Arm(m.until)
			}
			l := somePuts(r, n)
			var err, want api.Errno
			var written, wanted int
			switch r.IntN(3) {
			case 0:
				l = append(l, put(0, 1))[:1]
				err, want = keep.One(d, l[0]), m.one(l[0], 1)
			case 1:
				err, want = keep.All(d, l), m.all(l)
			case 2:
				written, err = keep.Mend(d, l)
				wanted, want = m.mend(l, 0)
			}
			if err != want || written != wanted {
				t.Fatalf("of %d writes: %d, %d, not %d, %d", len(l), written, err, wanted, want)
			}
			asReckoned(t, d, m)
			if m.dead {
				keeps := r.IntN(2) == 0
				d.Crash([]bool{keeps})
				if keeps {
					m.durable = slices.Clone(m.now)
				}
				m.now, m.dead, m.until = slices.Clone(m.durable), false, -1
			}
		}
	}
}

// P9.1, P9.2, R5: two devices that are the same stay so, whatever is called
// with others in between.
func TestTheSameAgain(t *testing.T) {
	r := rand.New(rand.NewPCG(2, 9))
	for range 500 {
		d := device(t, 3)
		fault(t, d, lose(r.IntN(3)), drop(r.IntN(3), 1+r.IntN(4)), miss(r.IntN(3), r.IntN(3)))
		if r.IntN(2) == 0 {
			d.Arm(r.IntN(12))
		}
		e, l := d.Copy(), somePuts(r, 3)
		n, err := keep.Mend(d, l)
		keep.All(device(t, 3), somePuts(r, 3))
		if again, errAgain := keep.Mend(e, l); n != again || err != errAgain || d.Ops() != e.Ops() {
			t.Fatalf("%d, %d by %d, then %d, %d by %d", n, err, d.Ops(), again, errAgain, e.Ops())
		}
	}
}

// P1, R1: each call ends, whatever it is given, and none panics.
func TestAnyArguments(t *testing.T) {
	ints := []int{0, 1, -1, 2, 255, 256, 4095, 4096, 4097, 1 << 31, 1 << 32, 1 << 62, math.MaxInt, math.MinInt, math.MinInt + 1}
	long := make([]byte, 1<<20)
	for _, sectors := range []int{0, 1, 2, 4096} {
		for _, a := range ints {
			for _, size := range []int{0, 1, 255, 256, 257, len(long)} {
				p := api.Put{At: a, S: long[:size]}
				want := api.OK
				switch {
				case a < 0 || a >= sectors:
					want = api.ErrNone
				case size != 256:
					want = api.ErrArg
				}
				d, _ := disk.New(sectors)
				if sectors == 0 {
					d = new(disk.Disk)
				}
				if err := keep.One(d, p); err != want {
					t.Errorf("One of %d, %d bytes: %d, not %d", a, size, err, want)
				}
				if err := keep.All(d, []api.Put{p, p}); err != want {
					t.Errorf("All of %d, %d bytes: %d, not %d", a, size, err, want)
				}
				if n, err := keep.Mend(d, []api.Put{p, p}); n != 0 || err != want {
					t.Errorf("Mend of %d, %d bytes: %d, %d, not %d", a, size, n, err, want)
				}
			}
		}
	}
}
