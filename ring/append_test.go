package ring_test

import (
	"bytes"
	"math"
	"testing"

	"quartermaster/api"
	"quartermaster/disk"
	"quartermaster/ring"
)

// newError looks at an answer without a log.
func newError(t *testing.T, d *disk.Disk, v int, g api.Geo, epoch, start, next, chain int) {
	t.Helper()
	if r, err := ring.New(d, v, g, epoch, start, next, chain); err != api.ErrArg || r != nil {
		t.Errorf("New(%d, %v, %d, %d, %d, %d): %v, %d", v, g, epoch, start, next, chain, r, err)
	}
}

// P11.3: each argument at the edges of what it may be.
func TestNew(t *testing.T) {
	for _, g := range []api.Geo{geometry(), {Wal: 512, Stripes: 32, K: 16, M: 8}} {
		d := device(t, geometry())
		ops := d.Ops()
		for _, n := range []int{0, 1, 1 << 31, top - 1, top} {
			newRing(t, d, g, n, 0, 0, 0)
			newRing(t, d, g, 0, n, n, 0)
			newRing(t, d, g, 0, 0, 0, n)
			newRing(t, d, g, n, max(0, n-1), n, n)
			newRing(t, d, g, n, max(0, n-g.Wal), n, n)
			if r, err := ring.New(d, n, g, 0, 0, 0, 0); err != api.OK || r == nil {
				t.Errorf("New(%d): %v, %d", n, r, err)
			}
		}
		newRing(t, d, g, 0, 0, g.Wal, 0)
		newRing(t, &disk.Disk{}, g, 0, 0, 0, 0)
		if d.Ops() != ops {
			t.Errorf("%d reads and writes", d.Ops()-ops)
		}
	}
}

// P11.3, R2, R4: New with each argument wrong by itself, and with all.
func TestNewErrors(t *testing.T) {
	g := geometry()
	d := device(t, g)
	newError(t, nil, volume, g, 1, 2, 3, 4)
	for _, n := range notWords() {
		newError(t, d, n, g, 1, 2, 3, 4)
		newError(t, d, volume, g, n, 2, 3, 4)
		newError(t, d, volume, g, 1, n, 3, 4)
		newError(t, d, volume, g, 1, 2, n, 4)
		newError(t, d, volume, g, 1, 2, 3, n)
		newError(t, d, volume, g, 1, n, n, 4)
		newError(t, nil, n, api.Geo{}, n, n, n, n)
	}
	for _, bad := range badGeos() {
		newError(t, d, volume, bad, 1, 2, 3, 4)
		newError(t, d, volume, bad, 1, 0, 0, 0)
	}
	for _, start := range []int{1, 8, 301, 1 << 31, top} {
		newError(t, d, volume, g, 1, start, start-1, 4)
		newError(t, d, volume, g, 1, start, 0, 4)
		newError(t, d, volume, g, 1, start, math.MinInt, 4)
	}
	for _, start := range []int{0, 1, 301, 1 << 31, top - 9} {
		newRing(t, d, g, 1, start, start+8, 4)
		newError(t, d, volume, g, 1, start, start+9, 4)
		newError(t, d, volume, g, 1, start, math.MaxInt, 4)
	}
	for _, start := range []int{top, top - 1, top - 7} { // it is not too far from start, but no word
		newError(t, d, volume, g, 1, start, top+1, 4)
	}
	newError(t, d, volume, g, 1, 0, top, 4)
	newError(t, d, volume, g, 1, math.MinInt, math.MaxInt, 4)
	newError(t, d, volume, g, 1, math.MaxInt, math.MinInt, 4)
}

// P11.3: what an Append has written, sector by sector, in both mirrors, how many
// reads and writes that took, and Next and Chain behind it.
func TestAppend(t *testing.T) {
	g := geometry()
	g.Wal = 100
	for _, start := range []int{0, 1, 50, 99, 100, 301, 1 << 31, top - 100} {
		for n, pieces := range map[int]int{0: 1, 1: 1, 199: 1, 200: 1, 201: 2, 399: 2, 400: 2, 401: 3, 12599: 63, 12600: 63, 12601: 64, 12799: 64, 12800: 64} {
			d := device(t, g)
			r := newRing(t, d, g, 9, start, start, 5)
			tx := txs(n)[0]
			appends(t, r, d, tx, api.OK, 4*pieces)
			l, chain := piecesOf(volume, g, start, 9, start, 5, tx)
			if len(l) != pieces {
				t.Fatalf("%d pieces of %d bytes", len(l), n)
			}
			stands(t, r, start+pieces, chain)
			has(t, d, putsOf(volume, g, l)...)
			tells(t, d, g, start, 5, api.Tail{Txs: [][]byte{tx}, Next: start + pieces, Chain: chain, Epoch: 9})
			d.Crash(nil)
			tells(t, d, g, start, 5, api.Tail{Txs: [][]byte{tx}, Next: start + pieces, Chain: chain, Epoch: 9})
		}
	}
}

// P11.3, R2: one of more than 64 pieces is too long, whatever there is room for.
func TestAppendTooLong(t *testing.T) {
	for _, wal := range []int{8, 64, 65, 512} {
		g := geometry()
		g.Wal = wal
		d := device(t, g)
		dead := device(t, g)
		dead.Arm(0)
		dead.Flush()
		for _, r := range []*ring.Ring{newRing(t, d, g, 9, 5, 5, 6), newRing(t, d, g, 9, 0, 5, 6), newRing(t, d, g, 9, 0, wal, 6), newRing(t, d, g, 9, top, top, 6),
			newRing(t, dead, g, 9, 5, 5, 6)} {
			next := r.Next()
			for _, n := range []int{12801, 12999, 13000, 13001, 1 << 20} {
				appends(t, r, d, make([]byte, n), api.ErrLong, 0)
				stands(t, r, next, 6)
			}
		}
		has(t, d)
	}
}

// P11.3: an epoch's first number stands in all its pieces: that with which New
// began, also where others were there ahead, and behind a Cut.
func TestAppendOneBehindTheOther(t *testing.T) {
	g := geometry()
	for _, start := range []int{0, 3, 16, 301, top - 40} {
		d := device(t, g)
		next, chain := start+2, 5
		r := newRing(t, d, g, 9, start, next, chain)
		var all []api.Piece
		for i, tx := range txs(3, 450, 0, 201, 200, 1000, 1600, 7) {
			if i > 2 {
				r.Cut()
			}
			var l []api.Piece
			l, chain = piecesOf(volume, g, next, 9, start+2, chain, tx)
			next += len(l)
			appends(t, r, d, tx, api.OK, 4*len(l))
			stands(t, r, next, chain)
			all = append(all, l...)
		}
		has(t, d, putsOf(volume, g, all[len(all)-8:])...) // the last turn of the slots
		for _, p := range all {
			if p.From != start+2 {
				t.Fatalf("From is %d", p.From)
			}
		}
	}
}

// P11.3: the sectors are written in order, piece by piece, each in mirror 0 and then
// in mirror 1, and each is flushed and read back ahead of the next one.
func TestAppendOrder(t *testing.T) {
	g := geometry()
	tx := txs(450)[0]
	l, _ := piecesOf(volume, g, 13, 9, 13, 5, tx)
	puts := putsOf(volume, g, l)
	for until := range 2 * len(puts) {
		d := device(t, g)
		r := newRing(t, d, g, 9, 13, 13, 5)
		d.Arm(until)
		// Of each put a write, a flush, which is not counted, and a read.
		appends(t, r, d, tx, api.ErrDead, until/2+(until+1)/2)
		if !d.Dead() {
			t.Fatal("it is not dead")
		}
		c := d.Copy()
		has(t, c, puts[:until/2]...)
		d.Crash([]bool{true})
		has(t, d, puts[:(until+1)/2]...)
		next, chain := 13+until/4, 5
		if until >= 4 {
			chain = sumOf(volume, g, l[until/4-1])
		}
		stands(t, r, next, chain)
	}
}

// P11.3: there are as many as there is room for; one more is ErrFull, with nothing
// written and nothing changed; behind Cut there is room again.
func TestAppendFull(t *testing.T) {
	for _, wal := range []int{8, 9, 20} {
		g := geometry()
		g.Wal = wal
		for _, start := range []int{0, 5, wal, 301} {
			for ahead := range wal + 1 {
				d := device(t, g)
				r := newRing(t, d, g, 9, start, start+ahead, 5)
				room := wal - ahead
				appends(t, r, d, txs(200*room + 1)[0], api.ErrFull, 0)
				for n := room; n > 0; n-- {
					appends(t, r, d, make([]byte, 200*n+1), api.ErrFull, 0)
					chain := r.Chain()
					appends(t, r, d, nil, api.OK, 4)
					stands(t, r, start+wal-n+1, sumOf(volume, g, single(start+wal-n, 9, start+ahead, chain)))
				}
				next, chain := r.Next(), r.Chain()
				was := d.Copy()
				for _, n := range []int{0, 1, 200, 201, 12800} {
					appends(t, r, d, make([]byte, n), api.ErrFull, 0)
					stands(t, r, start+wal, chain)
				}
				alike(t, d, was)
				r.Cut()
				stands(t, r, next, chain)
				alike(t, d, was)
				appends(t, r, d, make([]byte, 200*wal+1), api.ErrFull, 0)
				appends(t, r, d, make([]byte, 200*wal), api.OK, 4*wal)
				appends(t, r, d, nil, api.ErrFull, 0)
			}
		}
	}
}

// P11.3: Cut lets go what is ahead of Next, and no more: where nothing is ahead there
// is as much room as there was.
func TestCut(t *testing.T) {
	g := geometry()
	d := device(t, g)
	r := newRing(t, d, g, 9, 3, 3, 5)
	r.Cut()
	r.Cut()
	stands(t, r, 3, 5)
	appends(t, r, d, make([]byte, 1000), api.OK, 20)
	appends(t, r, d, make([]byte, 601), api.ErrFull, 0)
	r.Cut()
	appends(t, r, d, make([]byte, 601), api.OK, 16)
	appends(t, r, d, make([]byte, 801), api.ErrFull, 0)
	appends(t, r, d, make([]byte, 800), api.OK, 16)
	appends(t, r, d, nil, api.ErrFull, 0)
	if r.Next() != 16 {
		t.Errorf("Next is %d", r.Next())
	}
}

// P11.3: no number, nor the one behind the last piece, is above the greatest one.
func TestAppendAtTheGreatestNumber(t *testing.T) {
	g := geometry()
	for left := range 9 { // how many numbers are left
		for n := 1; n < 9; n++ {
			d := device(t, g)
			next := top - left
			r := newRing(t, d, g, 9, next, next, 5)
			tx := txs(200 * n)[0]
			if n > left {
				appends(t, r, d, tx, api.ErrFull, 0)
				stands(t, r, next, 5)
				has(t, d)
				r.Cut()
				appends(t, r, d, tx, api.ErrFull, 0)
				continue
			}
			appends(t, r, d, tx, api.OK, 4*n)
			l, chain := piecesOf(volume, g, next, 9, next, 5, tx)
			stands(t, r, next+n, chain)
			tells(t, d, g, next, 5, api.Tail{Txs: [][]byte{tx}, Next: next + n, Chain: chain, Epoch: 9})
			has(t, d, putsOf(volume, g, l)...)
		}
	}
}

// P11.3: the device's errors are handed on as they are; Next is behind the last
// piece that is there in both mirrors.
func TestAppendHandsErrorsOn(t *testing.T) {
	g := geometry()
	tx := txs(450)[0]
	l, _ := piecesOf(volume, g, 6, 9, 6, 5, tx) // the slots 6, 7 and 0
	look := func(d *disk.Disk, want api.Errno, ops, pieces int) {
		t.Helper()
		r := newRing(t, d, g, 9, 6, 6, 5)
		appends(t, r, d, tx, want, ops)
		chain := 5
		if pieces > 0 {
			chain = sumOf(volume, g, l[pieces-1])
		}
		stands(t, r, 6+pieces, chain)
	}
	for i, p := range putsOf(volume, g, l) {
		for n := range 7 {
			for _, f := range []api.Fault{drop(p.At, 1), miss(p.At, 25)} {
				d := device(t, g)
				for range n {
					fault(t, d, f)
				}
				if n < 4 {
					look(d, api.OK, 12+2*n, 3)
				} else {
					look(d, api.ErrDamaged, 2*i+8, i/2)
				}
			}
		}
	}
	for n := 1; n < 26; n++ {
		d, _ := disk.New(n)
		switch {
		case n <= 10:
			look(d, api.ErrNone, 0, 0) // slot 6 of mirror 0 is 10
		case n <= 18:
			look(d, api.ErrNone, 2, 0) // of mirror 1 18
		case n <= 19:
			look(d, api.ErrNone, 6, 1)
		default:
			look(d, api.OK, 12, 3)
		}
	}
	look(&disk.Disk{}, api.ErrNone, 0, 0)
	dead := device(t, g)
	dead.Arm(0)
	dead.Flush()
	look(dead, api.ErrDead, 0, 0)
}

// P11.3: sectors that are lost, rotten or blank are written over; what waits is flushed.
func TestAppendOverHurtSectors(t *testing.T) {
	g := geometry()
	tx := txs(450)[0]
	l, chain := piecesOf(volume, g, 6, 9, 6, 5, tx)
	for _, p := range putsOf(volume, g, l) {
		for _, f := range []api.Fault{lose(p.At), blank(p.At), rot(p.At, 0), rot(p.At, 255)} {
			d := device(t, g)
			fault(t, d, f)
			write(t, d, p.At, sector(9))
			r := newRing(t, d, g, 9, 6, 6, 5)
			appends(t, r, d, tx, api.OK, 12)
			stands(t, r, 9, chain)
			has(t, d, putsOf(volume, g, l)...)
		}
	}
}

// P11.3: behind an error an Append goes on from Next: so what was begun is no
// transaction's, if that did not begin there.
func TestAppendBehindAnError(t *testing.T) {
	g := geometry()
	d := device(t, g)
	fault(t, d, drop(5, 4))
	r := newRing(t, d, g, 9, 0, 0, 5)
	all := txs(450, 3)
	l, _ := piecesOf(volume, g, 0, 9, 0, 5, all[0])
	appends(t, r, d, all[0], api.ErrDamaged, 4+8)
	stands(t, r, 1, sumOf(volume, g, l[0]))
	more, chain := piecesOf(volume, g, 1, 9, 0, sumOf(volume, g, l[0]), all[1])
	appends(t, r, d, all[1], api.OK, 4)
	stands(t, r, 2, chain)
	has(t, d, putsOf(volume, g, append(l[:1], more...))...)
	tells(t, d, g, 0, 5, api.Tail{Next: 0, Chain: 5, Epoch: 9})
}

// P11.3: a nil Ring answers 0, and ErrArg.
func TestNilRing(t *testing.T) {
	var r *ring.Ring
	for _, n := range []int{0, 1, 12800, 12801, 1 << 20} {
		if err := r.Append(make([]byte, n)); err != api.ErrArg {
			t.Errorf("Append of %d bytes: %d", n, err)
		}
	}
	r.Cut()
	stands(t, r, 0, 0)
}

// R3: what was appended is not the caller's any more, nor one log's the other's.
func TestAppendIsOwn(t *testing.T) {
	g := geometry()
	d := device(t, g)
	e := d.Copy()
	r, other := newRing(t, d, g, 9, 0, 0, 5), newRing(t, e, g, 9, 0, 0, 5)
	tx := txs(450)[0]
	was := bytes.Clone(tx)
	appends(t, r, d, tx, api.OK, 12)
	clear(tx)
	l, _ := piecesOf(volume, g, 0, 9, 0, 5, was)
	has(t, d, putsOf(volume, g, l)...)
	stands(t, other, 0, 5)
	has(t, e)
	// What lies behind a transaction's end is not written.
	appends(t, other, e, was[:200], api.OK, 4)
	l, _ = piecesOf(volume, g, 0, 9, 0, 5, was[:200])
	has(t, e, putsOf(volume, g, l)...)
}
