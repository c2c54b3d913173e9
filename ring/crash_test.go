package ring_test

import (
	"slices"
	"testing"

	"quartermaster/api"
	"quartermaster/disk"
	"quartermaster/keep"
	"quartermaster/ring"
)

// start is from where on the logs of these tests are told: what stands ahead of it
// fills all slots, and is let go.
const start = 21

// first is the sum ahead there.
func first() int { return sumOf(volume, geometry(), ordinary()) }

// appended is a device with a log of these transactions, from start on, the Ring that
// goes on behind them, and the tail that is told.
func appended(t *testing.T, all ...[]byte) (*disk.Disk, *ring.Ring, api.Tail) {
	t.Helper()
	d := device(t, geometry())
	r := newRing(t, d, geometry(), 3, start-8, start-8, 5)
	for _, tx := range append(txs(0, 1, 200, 1, 1, 1, 1, 1), all...) {
		if r.Next() == start {
			r.Cut()
		}
		if err := r.Append(tx); err != api.OK {
			t.Fatalf("Append: %d", err)
		}
	}
	want := api.Tail{Txs: all, Next: r.Next(), Chain: r.Chain(), Epoch: 3 * min(1, len(all))}
	tells(t, d, geometry(), start, first(), want)
	r.Cut()
	r = newRing(t, d, geometry(), 4, start, r.Next(), r.Chain())
	return d, r, want
}

// hurts are what may become of a sector.
func hurts(a int) []api.Fault {
	return []api.Fault{lose(a), blank(a), rot(a, 0), rot(a, 100), rot(a, 254)}
}

// P11.5: the chapter's example.
func TestExample(t *testing.T) {
	d := device(t, geometry())
	r := newRing(t, d, geometry(), 1, 0, 0, 0)
	all := txs(3, 450)
	appends(t, r, d, all[0], api.OK, 4)
	appends(t, r, d, all[1], api.OK, 12)
	a, _ := load(t, d, geometry())
	for slot, want := range [][3]int{{0, 0, 1}, {1, 0, 3}, {2, 1, 3}, {3, 2, 3}} {
		if p, ok := ring.Told(a[slot], volume, geometry(), 0, slot); !ok || [3]int{p.Seq, p.Index, p.Of} != want {
			t.Errorf("the piece %v stands in the slot %d", p, slot)
		}
	}
	fault(t, d, lose(4+2))
	tells(t, d, geometry(), 0, 0, api.Tail{Txs: all, Next: 4, Chain: r.Chain(), Epoch: 1})
}

// P11.5: what was appended is told, in order, with each choice of one sector of each
// slot lost, blank or rotten: of a log that fills all slots, and of a shorter one.
func TestOneOfEachSlotIsHurt(t *testing.T) {
	for i, all := range [][][]byte{txs(3, 450, 0, 201, 7), txs(3, 450)} {
		whole, _, want := appended(t, all...)
		for choice := i; choice < 3*3*3*3*3*3*3*3; choice += 1 + i {
			d := whole.Copy()
			for slot, rest := 0, choice; slot < 8; slot, rest = slot+1, rest/3 {
				if rest%3 > 0 {
					fault(t, d, hurts(at(geometry(), rest%3-1, slot))[(choice+slot)%5])
				}
			}
			tells(t, d, geometry(), start, first(), want)
		}
	}
}

// P11.5: each kind of hurt in each sector of one slot; with both hurt it is told that
// too much is damaged, if the slot is needed.
func TestBothOfASlotAreHurt(t *testing.T) {
	for n := range 9 {
		whole, _, want := appended(t, txs(make([]int, n)...)...)
		for behind := range 8 {
			slot := (start + behind) % 8
			for _, f := range hurts(at(geometry(), 0, slot)) {
				for _, g := range hurts(at(geometry(), 1, slot)) {
					one, other, both := whole.Copy(), whole.Copy(), whole.Copy()
					fault(t, one, f)
					tells(t, one, geometry(), start, first(), want)
					fault(t, other, g)
					tells(t, other, geometry(), start, first(), want)
					fault(t, both, f, g)
					if behind <= n {
						tooMuch(t, both, geometry(), start, first())
					} else {
						tells(t, both, geometry(), start, first(), want)
					}
				}
			}
		}
	}
}

// count is how many pieces a transaction has.
func count(tx []byte) int { return max(1, (len(tx)+199)/200) }

// with is a tail with one more transaction, of the epoch 4.
func with(tail api.Tail, tx []byte) api.Tail {
	tail.Txs = append(slices.Clone(tail.Txs), tx)
	tail.Next += count(tx)
	tail.Chain, tail.Epoch = first(), 4
	return tail
}

// P11.5: a device that dies at each operation of an Append, with each choice of what
// waits kept: the transactions that were appended are told, and the one on its way
// wholly, or not at all: wholly as soon as one mirror has its last piece.
func TestCrashInTheMidst(t *testing.T) {
	for _, all := range [][][]byte{nil, txs(0), txs(3, 250)} {
		whole, _, tail := appended(t, all...)
		for _, tx := range txs(0, 200, 201, 800) {
			for until := range 4 * count(tx) {
				for _, keeps := range [][]bool{nil, {false}, {true}, {true, false}, {false, true}} {
					d := whole.Copy()
					r := newRing(t, d, geometry(), 4, start, tail.Next, tail.Chain)
					d.Arm(until)
					appends(t, r, d, tx, api.ErrDead, until/2+(until+1)/2)
					d.Crash(keeps)
					there := until / 2 // how many sectors of it are there
					if len(keeps) > 0 && keeps[0] {
						there = (until + 1) / 2
					}
					want := tail
					if there > 0 {
						want.Epoch = 4
					}
					if there > 2*(count(tx)-1) {
						want = with(tail, tx)
					}
					tells(t, d, geometry(), start, first(), want)
					wholeOrNot(t, d, tail, tx)
					goesOn(t, d, want)
				}
			}
		}
	}
}

// wholeOrNot looks at whether a device's log tells a transaction behind a tail wholly,
// or not at all: as it is, and with any one sector of it hurt.
func wholeOrNot(t *testing.T, d *disk.Disk, tail api.Tail, tx []byte) {
	t.Helper()
	for a := 3; a < 20; a++ {
		c := d.Copy()
		fault(t, c, hurts(a)[a%5])
		la, lb := load(t, c, geometry())
		got, err := ring.Follow(la, lb, volume, geometry(), start, first())
		want := tail
		if got.Next > tail.Next {
			want = with(tail, tx)
		}
		want.Epoch = got.Epoch // it may be that of a piece of what is not told
		if err != api.OK || !sameTail(got, want) {
			t.Errorf("with the sector %d hurt: %v, %d, not %v", a, got, err, want)
		}
	}
}

// goesOn looks at whether a log goes on behind a crash, in the epoch behind the one
// that it tells, and tells nothing of what was left of the one that was on its way.
func goesOn(t *testing.T, d *disk.Disk, tail api.Tail) {
	t.Helper()
	d = d.Copy()
	healed(t, d, tail)
	r := newRing(t, d, geometry(), 5, start, tail.Next, tail.Chain)
	appends(t, r, d, []byte{77}, api.OK, 4)
	want := with(tail, []byte{77})
	want.Epoch = 5
	for a := 3; a < 20; a++ {
		c := d.Copy()
		fault(t, c, hurts(a)[(a+tail.Next)%5])
		tells(t, c, geometry(), start, first(), want)
	}
}

// healed writes each piece of a tail in the mirror that has it not: till then it may
// be lost with one sector.
func healed(t *testing.T, d *disk.Disk, tail api.Tail) {
	t.Helper()
	a, b := load(t, d, geometry())
	for seq := start; seq < tail.Next; seq++ {
		l := triedBy(a[seq%8], b[seq%8], volume, geometry(), seq)
		if len(l) == 0 {
			t.Fatalf("the piece %d is not there", seq)
		}
		if err := keep.All(d, putsOf(volume, geometry(), l[:1])); err != api.OK {
			t.Fatalf("All: %d", err)
		}
	}
}

// P11.5: the same where writes are dropped or misled, as far as they are borne.
func TestCrashAmongDropsAndMisses(t *testing.T) {
	whole, _, tail := appended(t, txs(3, 250)...)
	tx := txs(450)[0]
	for i := range 6 {
		a := at(geometry(), i%2, (tail.Next+i/2)%8)
		for n := 1; n < 4; n++ {
			for _, f := range []api.Fault{drop(a, 1), miss(a, 2), miss(a, 25)} {
				for until := range 12 + 2*n {
					d := whole.Copy()
					fault(t, d, slices.Repeat([]api.Fault{f}, n)...)
					r := newRing(t, d, geometry(), 4, start, tail.Next, tail.Chain)
					d.Arm(until)
					if err := r.Append(tx); err != api.ErrDead {
						t.Errorf("Append: %d", err)
					}
					d.Crash([]bool{until%3 == 0})
					wholeOrNot(t, d, tail, tx)
				}
			}
		}
	}
}

// P11.5: what was appended wholly is there behind a crash, whatever is kept.
func TestCrashBehindAnAppend(t *testing.T) {
	for _, keeps := range [][]bool{nil, {true}} {
		d, r, tail := appended(t, txs(3, 250)...)
		d.Arm(12)
		appends(t, r, d, txs(450)[0], api.OK, 12)
		appends(t, r, d, nil, api.ErrDead, 0)
		d.Crash(keeps)
		tells(t, d, geometry(), start, first(), with(tail, txs(450)[0]))
	}
}

// P11.3, P11.5: behind a Cut the log is told from Next on, also where its slots go
// round many times.
func TestCutsOneBehindTheOther(t *testing.T) {
	d, r, tail := appended(t)
	next, chain := tail.Next, tail.Chain
	for turn := range 40 {
		var want api.Tail
		for _, tx := range txs(turn%201, turn*7, 3) {
			if err := r.Append(tx); err != api.OK {
				t.Fatalf("Append: %d", err)
			}
			want.Txs = append(want.Txs, tx)
		}
		want.Next, want.Chain, want.Epoch = r.Next(), r.Chain(), 4
		fault(t, d, lose(at(geometry(), turn%2, turn%8)))
		tells(t, d, geometry(), next, chain, want)
		next, chain = r.Next(), r.Chain()
		r.Cut()
		fault(t, d, drop(at(geometry(), turn%2, next%8), 1+turn%3))
		tells(t, d, geometry(), next, chain, api.Tail{Next: next, Chain: chain})
	}
}
