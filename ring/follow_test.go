package ring_test

import (
	"math"
	"slices"
	"testing"

	"quartermaster/api"
	"quartermaster/ring"
)

// top is the greatest number of a block.
const top = math.MaxUint32

// log are both mirrors of one, as geometry lays it out.
type log [2][][]byte

// empty is a log of which each sector is free.
func empty(g api.Geo) log { return log{freeMirror(volume, g, 0), freeMirror(volume, g, 1)} }

// put lays pieces in a mirror, or in both.
func (l log) put(mirror int, pieces ...api.Piece) log {
	g := geometry()
	g.Wal = len(l[0])
	for _, p := range pieces {
		l[mirror][p.Seq%g.Wal] = sectorOf(volume, g, mirror, p)
	}
	return l
}

func (l log) both(pieces ...api.Piece) log { return l.put(0, pieces...).put(1, pieces...) }

// tells and tooMuch look at what a log tells.
func (l log) tells(t *testing.T, start, chain int, want api.Tail) {
	t.Helper()
	g := geometry()
	g.Wal = len(l[0])
	follow(t, l[0], l[1], volume, g, start, chain, want, api.OK)
}

func (l log) tooMuch(t *testing.T, start, chain int) {
	t.Helper()
	g := geometry()
	g.Wal = len(l[0])
	follow(t, l[0], l[1], volume, g, start, chain, api.Tail{}, api.ErrDamaged)
}

// chained are the pieces of transactions in one epoch, one behind the other; and
// the sums ahead of each of these, and ahead of what is behind all.
func chained(g api.Geo, seq, epoch, chain int, all ...[]byte) ([]api.Piece, []int) {
	var l []api.Piece
	from, sums := seq, []int{chain}
	for _, tx := range all {
		pieces, _ := piecesOf(volume, g, seq+len(l), epoch, from, sums[len(l)], tx)
		for _, p := range pieces {
			sums = append(sums, sumOf(volume, g, p))
		}
		l = append(l, pieces...)
	}
	return l, sums
}

// single is a piece that is a transaction by itself.
func single(seq, epoch, from, chain int) api.Piece {
	return api.Piece{Seq: seq, Epoch: epoch, From: from, Chain: chain, Of: 1, B: []byte{byte(seq), byte(epoch)}}
}

// starts are some from which a log may go on: 0, in the midst of the slots, behind a
// whole turn of them, and near the greatest number.
func starts() []int { return []int{0, 1, 5, 7, 8, 9, 13, 301, 1 << 31, top - 9, top - 8} }

// P11.2: a log of which nothing was written tells nothing, wherever it starts.
func TestFollowOfNothing(t *testing.T) {
	for _, start := range append(starts(), top-7, top-1, top) {
		for _, chain := range []int{0, 1, 1 << 31, top} {
			empty(geometry()).tells(t, start, chain, api.Tail{Next: start, Chain: chain})
		}
	}
}

// P11.2: transactions of all lengths are told, in order, wherever they start.
func TestFollow(t *testing.T) {
	for _, start := range starts() {
		for _, chain := range []int{0, 77, top} {
			for _, all := range [][][]byte{txs(0), txs(3), txs(200), txs(201), txs(3, 450), txs(450, 0, 3), txs(600, 601), txs(0, 0, 0, 0, 0, 0, 0),
				txs(1600), txs(1401), txs(200, 199, 1, 0, 201, 400), txs(0, 0, 0, 0, 0, 0, 0, 0)} {
				l, sums := chained(geometry(), start, 3, chain, all...)
				empty(geometry()).both(l...).tells(t, start, chain, api.Tail{Txs: all, Next: start + len(l), Chain: sums[len(l)], Epoch: 3})
			}
		}
	}
}

// P11.2: the chapter's example, with slot 2 of mirror 0 lost.
func TestFollowExample(t *testing.T) {
	all := txs(3, 450)
	l, sums := chained(geometry(), 0, 1, 0, all...)
	if len(l) != 4 {
		t.Fatalf("%d pieces", len(l))
	}
	log := empty(geometry()).both(l...)
	log[0][2] = nil
	log.tells(t, 0, 0, api.Tail{Txs: all, Next: 4, Chain: sums[4], Epoch: 1})
}

// P11.2: a transaction of as many pieces as there may be, in as many slots.
func TestFollowOfLongTransactions(t *testing.T) {
	for _, wal := range []int{64, 65, 100, 512} {
		g := geometry()
		g.Wal = wal
		all := txs(12800)
		l, sums := chained(g, 1000, 3, 5, all...)
		empty(g).both(l...).tells(t, 1000, 5, api.Tail{Txs: all, Next: 1064, Chain: sums[64], Epoch: 3})
		empty(g).both(l[:63]...).tells(t, 1000, 5, api.Tail{Next: 1000, Chain: 5, Epoch: 3})
	}
}

// P11.2: pieces with fewer bytes than there is room for are joined as they are.
func TestFollowOfShortPieces(t *testing.T) {
	l, sums := chained(geometry(), 4, 3, 5, txs(450)...)
	l[0].B, l[1].B, l[2].B = []byte{1, 2}, nil, []byte{3}
	empty(geometry()).both(l...).tells(t, 4, 5, api.Tail{Txs: [][]byte{{1, 2, 3}}, Next: 7, Chain: sums[3], Epoch: 3})
}

// P11.2, P11.5: of a log that fills all slots, each choice of slots that are whole,
// or lost in one mirror.
func TestFollowOfEachMirror(t *testing.T) {
	all := txs(3, 450, 0, 300, 7)
	l, sums := chained(geometry(), 21, 3, 5, all...)
	want := api.Tail{Txs: all, Next: 29, Chain: sums[8], Epoch: 3}
	for choice := range 3 * 3 * 3 * 3 * 3 * 3 * 3 * 3 {
		log := empty(geometry()).both(l...)
		for slot, rest := 0, choice; slot < 8; slot, rest = slot+1, rest/3 {
			if rest%3 > 0 {
				log[rest%3-1][slot] = [][]byte{nil, {}, sector(0), sector(255), {1}, log[0][(slot+1)%8]}[(choice+slot)%6]
			}
		}
		log.tells(t, 21, 5, want)
	}
}

// P11.2: one mirror is gone wholly; both are.
func TestFollowOfOneMirror(t *testing.T) {
	for _, start := range starts() {
		all := txs(3, 450, 0)
		l, sums := chained(geometry(), start, 3, 5, all...)
		want := api.Tail{Txs: all, Next: start + 5, Chain: sums[5], Epoch: 3}
		for mirror := range 2 {
			log := empty(geometry()).put(mirror, l...)
			log.tells(t, start, 5, want) // the other one is free
			for _, s := range [][]byte{nil, {}, sector(0), sector(7)} {
				log[1-mirror] = slices.Repeat([][]byte{s}, 8)
				log.tells(t, start, 5, want)
			}
			log[1-mirror] = log[mirror] // each sector is the other mirror's
			log.tells(t, start, 5, want)
			log[mirror] = make([][]byte, 8)
			log.tooMuch(t, start, 5)
		}
	}
}

// P11.2: a slot where neither sector is clean: where one of its piece is needed, or
// to tell that the log ends there, it is too much; behind that it is not needed.
func TestFollowOfSlotsThatAreLost(t *testing.T) {
	for _, start := range []int{0, 5, 16, top - 8} {
		for n := range 9 {
			l, sums := chained(geometry(), start, 3, 5, txs(make([]int, n)...)...)
			for lost := range 8 {
				log := empty(geometry()).both(l...)
				slot := (start + lost) % 8
				// Neither of another volume or place, nor sealed wrong, is any clean.
				for i, s := range [][]byte{nil, sector(0), free(volume+1, 4+slot), free(volume, 3), free(volume, 12+slot), l2(l, slot), {1, 2}} {
					log[0][slot], log[1][slot] = s, nil
					if i%2 == 1 {
						log[0][slot], log[1][slot] = nil, free(volume, 4+slot)
					}
					if lost <= n {
						log.tooMuch(t, start, 5)
						continue
					}
					log.tells(t, start, 5, api.Tail{Txs: make([][]byte, n), Next: start + n, Chain: sums[n], Epoch: 3 * min(1, n)})
				}
			}
		}
	}
}

// l2 is a sector of one of these pieces with a byte changed, or noughts.
func l2(l []api.Piece, slot int) []byte {
	for _, p := range l {
		if p.Seq%8 == slot {
			s := sectorOf(volume, geometry(), 0, p)
			s[100] ^= 1
			return s
		}
	}
	return sector(0)
}

// P11.2: where a log ends, one clean sector is enough, whatever kind of block it is,
// and in whichever mirror.
func TestFollowEndsWhereOneIsClean(t *testing.T) {
	l, sums := chained(geometry(), 13, 3, 5, txs(0, 201)...) // the slots 5, 6, 7
	want := api.Tail{Txs: txs(0, 201), Next: 16, Chain: sums[3], Epoch: 3}
	for mirror := range 2 {
		a := at(geometry(), mirror, 0)
		for _, clean := range [][]byte{free(volume, a), sealed(api.Block{Kind: 2, Volume: volume, Addr: a, Epoch: 9, Seq: 16, Body: []byte{1}}),
			sealed(api.Block{Kind: 3, Volume: volume, Addr: a, Epoch: top, Seq: top}), // it is none of the log's pieces
			sealed(api.Block{Kind: 4, Volume: volume, Addr: a, Seq: 16, Body: make([]byte, 228)}),
			sectorOf(volume, geometry(), mirror, single(8, 3, 8, sums[3])), sectorOf(volume, geometry(), mirror, single(24, 3, 13, sums[3]))} {
			for _, other := range [][]byte{nil, sector(0), sector(1), clean[:255], append(slices.Clone(clean), 0)} {
				log := empty(geometry()).both(l...)
				log[mirror][0], log[1-mirror][0] = clean, other
				log.tells(t, 13, 5, want)
				log[mirror][0] = slices.Clone(clean)
				log[mirror][0][255] ^= 1
				log.tooMuch(t, 13, 5)
			}
		}
	}
}

// P11.2: what does not fit ends the log, also where the other sector of its slot is
// not clean.
func TestFollowEndsWhereNoneFits(t *testing.T) {
	l, sums := chained(geometry(), 0, 3, 5, txs(0, 0)...)
	want := api.Tail{Txs: txs(0, 0), Next: 2, Chain: sums[2], Epoch: 3}
	for _, p := range []api.Piece{single(2, 3, 0, sums[2]+1), single(2, 2, 0, sums[2]), single(2, 3, 1, sums[2]), single(2, 4, 0, sums[2])} {
		for mirror := range 2 {
			log := empty(geometry()).both(l...).put(mirror, p)
			log.tells(t, 0, 5, want)
			log[1-mirror][2] = nil
			log.tells(t, 0, 5, want)
		}
		empty(geometry()).both(l...).both(p).tells(t, 0, 5, want)
	}
}

// P11.2: number by number: pieces of a turn ahead or behind, or of slots further
// on, are none of the log's.
func TestFollowOfOtherTurns(t *testing.T) {
	for _, n := range []int{0, 3, 7} {
		for _, turn := range []int{-16, -8, 8, 16} {
			l, sums := chained(geometry(), 21, 3, 5, txs(make([]int, n)...)...)
			want := api.Tail{Txs: make([][]byte, n), Next: 21 + n, Chain: sums[n], Epoch: 3 * min(1, n)}
			for mirror := range 2 {
				other := single(21+n+turn, 3, 0, sums[n])
				if n > 0 {
					other.From = min(l[0].From, other.Seq)
				}
				empty(geometry()).both(l...).put(mirror, other).tells(t, 21, 5, want)
				empty(geometry()).both(l...).both(other).tells(t, 21, 5, want)
				other.Seq = 22 + n
				empty(geometry()).both(l...).put(mirror, other).tells(t, 21, 5, want)
			}
		}
	}
	// All slots hold the turn ahead: none of it is told from here on.
	l, _ := chained(geometry(), 13, 3, 5, txs(0, 0, 0, 0, 0, 0, 0, 0)...)
	empty(geometry()).both(l...).tells(t, 21, 5, api.Tail{Next: 21, Chain: 5})
}

// P11.2: of both pieces of a number that of the greater epoch is taken, if it fits;
// and else the other one, if it does.
func TestFollowOfTwoEpochs(t *testing.T) {
	ahead := single(20, 3, 18, 5)
	sum := sumOf(volume, geometry(), ahead)
	for mirror := range 2 {
		look := func(p, q api.Piece, taken *api.Piece) {
			t.Helper()
			want := api.Tail{Txs: [][]byte{ahead.B}, Next: 21, Chain: sum, Epoch: 3}
			if taken != nil {
				want = api.Tail{Txs: [][]byte{ahead.B, taken.B}, Next: 22, Chain: sumOf(volume, geometry(), *taken), Epoch: taken.Epoch}
			}
			empty(geometry()).both(ahead).put(mirror, p).put(1-mirror, q).tells(t, 20, 5, want)
		}
		same, later, latest, earlier := single(21, 3, 18, sum), single(21, 4, 21, sum), single(21, 6, 21, sum), single(21, 2, 18, sum)
		look(same, later, &later)
		look(same, latest, &latest)
		look(later, latest, &latest)
		look(same, earlier, &same)
		look(earlier, later, &later)
		look(earlier, earlier, nil)
		earlier.From = 21
		look(earlier, earlier, nil)
		wrong := single(21, 4, 21, sum+1)
		look(same, wrong, &same)
		look(earlier, wrong, nil)
		wrong = single(21, 4, 18, sum)
		look(same, wrong, &same)
		look(later, single(21, 9, 18, sum), &later)
		look(wrong, single(21, 9, 20, sum), nil)
	}
}

// P11.2: of two pieces of the same number and epoch mirror 0's is taken, if it fits;
// and else mirror 1's.
func TestFollowOfTheSameEpoch(t *testing.T) {
	ahead := single(20, 3, 18, 5)
	sum := sumOf(volume, geometry(), ahead)
	p := single(21, 3, 18, sum)
	for f, n := range []int{21, 3, 18, sum, 0, 1} {
		q := p
		q.B = []byte{200, byte(f)}
		look := func(first, second, taken api.Piece) {
			t.Helper()
			empty(geometry()).both(ahead).put(0, first).put(1, second).tells(t, 20, 5, api.Tail{
				Txs: [][]byte{ahead.B, taken.B}, Next: 22, Chain: sumOf(volume, geometry(), taken), Epoch: 3})
		}
		look(p, q, p)
		look(q, p, q)
		if f == 2 || f == 3 { // it does not fit then
			*fields(&q)[f] = n + 1
			look(p, q, p)
			look(q, p, p)
		}
	}
}

// P11.2: the first piece's Chain is what is handed in, its Epoch and its From may be
// any; of two of it that of the greater epoch is taken, whichever mirror's it is.
func TestFollowOfTheFirstPiece(t *testing.T) {
	for _, epoch := range []int{0, 1, 3, top} {
		for _, from := range []int{0, 1, 19, 20} {
			for _, chain := range []int{0, 5, top} {
				p := single(20, epoch, from, chain)
				want := api.Tail{Txs: [][]byte{p.B}, Next: 21, Chain: sumOf(volume, geometry(), p), Epoch: epoch}
				empty(geometry()).both(p).tells(t, 20, chain, want)
				for _, other := range []int{0, 5, 6, top} {
					if other != chain {
						empty(geometry()).both(p).tells(t, 20, other, api.Tail{Next: 20, Chain: other})
					}
				}
				if epoch == 0 {
					continue
				}
				for mirror := range 2 {
					empty(geometry()).put(mirror, p).put(1-mirror, single(20, epoch-1, 20, chain)).tells(t, 20, chain, want)
					empty(geometry()).put(mirror, single(20, epoch-1, 20, chain)).put(1-mirror, p).tells(t, 20, chain, want)
				}
			}
		}
	}
}

// P11.2: a Chain that does not fit in one mirror, and fits in the other one; or in
// neither.
func TestFollowOfChains(t *testing.T) {
	all := txs(3, 0, 0, 0)
	l, sums := chained(geometry(), 6, 3, 5, all...)
	for i := range l {
		for _, chain := range []int{0, 5, 6, sums[i] + 1, sums[i] - 1, top} {
			if chain == sums[i] {
				continue
			}
			wrong := l[i]
			wrong.Chain = chain
			for mirror := range 2 {
				empty(geometry()).both(l...).put(mirror, wrong).tells(t, 6, 5, api.Tail{Txs: all, Next: 10, Chain: sums[4], Epoch: 3})
			}
			empty(geometry()).both(l...).both(wrong).tells(t, 6, 5, api.Tail{Txs: all[:i], Next: 6 + i, Chain: sums[i], Epoch: 3 * min(1, i)})
		}
	}
}

// P11.4: the sum ahead is that of the sector in mirror 0, by the library: also of a
// piece that is told by mirror 1 alone, or is mirror 1's where mirror 0 has another
// one. (The whole sector's sum is meant: so it is the same for each piece.)
func TestFollowSums(t *testing.T) {
	for _, start := range starts() {
		p := single(start, 3, start, 5)
		sum := sumOf(volume, geometry(), p)
		if other := sumOf(volume+1, geometry(), ordinary()); sum != other || sum != 1214729159 {
			t.Fatalf("the sums of sectors are %d, %d", sum, other)
		}
		q := single(start+1, 3, start, sum)
		want := api.Tail{Txs: [][]byte{p.B, q.B}, Next: start + 2, Chain: sumOf(volume, geometry(), q), Epoch: 3}
		for choice := range 4 {
			log := empty(geometry()).put(choice%2, p).put(choice/2, q)
			log.tells(t, start, 5, want)
			wrong := p
			wrong.Chain = 6
			log.put(1-choice%2, wrong).tells(t, start, 5, want)
		}
		// No other sum fits: not that of what is sealed, nor of the body.
		s := sectorOf(volume, geometry(), 0, p)
		for _, b := range [][]byte{s[:252], s[24:252], s[24 : 24+int(s[20])], p.B, s[:255], nil} {
			wrong := q
			wrong.Chain = sumOfBytes(b)
			empty(geometry()).both(p, wrong).tells(t, start, 5, api.Tail{Txs: [][]byte{p.B}, Next: start + 1, Chain: sum, Epoch: 3})
		}
	}
}

// P11.2: From is that of the piece ahead in its epoch, and of a greater one its own
// number.
func TestFollowOfFroms(t *testing.T) {
	ahead := single(20, 3, 18, 5)
	sum := sumOf(volume, geometry(), ahead)
	for epoch := range 6 {
		for from := range 22 {
			p := single(21, epoch, from, sum)
			want := api.Tail{Txs: [][]byte{ahead.B}, Next: 21, Chain: sum, Epoch: 3}
			if epoch == 3 && from == 18 || epoch > 3 && from == 21 {
				want = api.Tail{Txs: [][]byte{ahead.B, p.B}, Next: 22, Chain: sumOf(volume, geometry(), p), Epoch: epoch}
			}
			empty(geometry()).both(ahead, p).tells(t, 20, 5, want)
		}
	}
	// Where epochs follow each other, the one taken ahead counts, not the first one.
	p := single(21, 4, 21, sum)
	q := single(22, 4, 21, sumOf(volume, geometry(), p))
	r := single(23, 9, 23, sumOf(volume, geometry(), q))
	l := []api.Piece{ahead, p, q, r}
	empty(geometry()).both(l...).tells(t, 20, 5, api.Tail{Txs: [][]byte{ahead.B, p.B, q.B, r.B}, Next: 24, Chain: sumOf(volume, geometry(), r), Epoch: 9})
	r.Epoch, r.From = 3, 18
	l[3] = r
	empty(geometry()).both(l...).tells(t, 20, 5, api.Tail{Txs: [][]byte{ahead.B, p.B, q.B}, Next: 23, Chain: sumOf(volume, geometry(), q), Epoch: 4})
}

// P11.2: what is behind the last piece, of an earlier epoch, is not told, though it
// is of a transaction that goes on there; of a later one it is, if it begins there.
func TestFollowOfTornTransactions(t *testing.T) {
	torn, sums := chained(geometry(), 3, 3, 5, txs(0, 600, 3)...) // 3; 4, 5, 6; 7
	l := []api.Piece{single(4, 4, 4, sums[1])}
	l = append(l, single(5, 4, 4, sumOf(volume, geometry(), l[0])))
	for n := range 3 {
		want := api.Tail{Txs: [][]byte{nil}, Next: 4 + n, Chain: sums[1], Epoch: 3 + min(1, n)}
		for _, p := range l[:n] {
			want.Txs, want.Chain = append(want.Txs, p.B), sumOf(volume, geometry(), p)
		}
		for end := 1; end < 4; end++ {
			if n > 0 {
				empty(geometry()).both(torn...).both(l[:n]...).tells(t, 3, 5, want)
				empty(geometry()).both(torn[:end]...).both(l[:n]...).tells(t, 3, 5, want)
				// What is of a later epoch in one mirror only, counts as well.
				empty(geometry()).both(torn...).put(n%2, l[:n]...).tells(t, 3, 5, want)
			} else {
				empty(geometry()).both(torn[:end]...).tells(t, 3, 5, want)
			}
		}
	}
}

// taken are pieces of one epoch with these Index and Of, from 6 on, chained.
func taken(places ...[2]int) ([]api.Piece, []int) {
	sums := []int{5}
	var l []api.Piece
	for i, place := range places {
		p := api.Piece{Seq: 6 + i, Epoch: 3, From: 6, Chain: sums[i], Index: place[0], Of: place[1], B: []byte{byte(i)}}
		l, sums = append(l, p), append(sums, sumOf(volume, geometry(), p))
	}
	return l, sums
}

// P11.2: an Index that does not go on by one, an Of that changes, a transaction
// without its end: the tail ends ahead of it, its Epoch is the last piece's.
func TestFollowOfPiecesOfNoTransaction(t *testing.T) {
	for i, c := range []struct {
		places [][2]int
		txs    [][]byte
		long   int
	}{
		{[][2]int{{0, 2}, {1, 2}}, [][]byte{{0, 1}}, 2},
		{[][2]int{{1, 2}}, nil, 0},
		{[][2]int{{1, 2}, {0, 1}}, nil, 0},
		{[][2]int{{0, 2}}, nil, 0},
		{[][2]int{{0, 2}, {0, 1}, {0, 1}}, nil, 0},
		{[][2]int{{0, 1}, {0, 2}, {0, 2}, {1, 2}}, [][]byte{{0}}, 1},
		{[][2]int{{0, 1}, {1, 1 + 1}, {0, 1}}, [][]byte{{0}}, 1},
		{[][2]int{{0, 1}, {0, 3}, {1, 3}}, [][]byte{{0}}, 1},
		{[][2]int{{0, 1}, {0, 3}, {2, 3}, {1, 3}, {0, 1}}, [][]byte{{0}}, 1},
		{[][2]int{{0, 1}, {0, 3}, {1, 3}, {1, 3}, {2, 3}}, [][]byte{{0}}, 1},
		{[][2]int{{0, 1}, {0, 3}, {1, 2}, {2, 3}, {0, 1}}, [][]byte{{0}}, 1},
		{[][2]int{{0, 1}, {0, 3}, {1, 3}, {2, 4}, {0, 1}}, [][]byte{{0}}, 1},
		{[][2]int{{0, 1}, {0, 2}, {1, 3}, {2, 3}, {0, 1}}, [][]byte{{0}}, 1},
		{[][2]int{{0, 1}, {0, 2}, {1, 2}, {0, 64}, {1, 64}}, [][]byte{{0}, {1, 2}}, 3},
		{[][2]int{{0, 1}, {0, 2}, {1, 2}, {63, 64}, {0, 1}}, [][]byte{{0}, {1, 2}}, 3},
		{[][2]int{{0, 3}, {1, 3}, {2, 3}, {0, 4}, {1, 4}, {2, 4}, {3, 4}, {0, 1}}, [][]byte{{0, 1, 2}, {3, 4, 5, 6}, {7}}, 8},
		{[][2]int{{0, 3}, {1, 3}, {2, 3}, {0, 6}, {1, 6}, {2, 6}, {3, 6}, {4, 6}}, [][]byte{{0, 1, 2}}, 3},
		{[][2]int{{0, 9}, {1, 9}, {2, 9}, {3, 9}, {4, 9}, {5, 9}, {6, 9}, {7, 9}}, nil, 0},
		{[][2]int{{0, 8}, {1, 8}, {2, 8}, {3, 8}, {4, 8}, {5, 8}, {6, 8}, {7, 8}}, [][]byte{{0, 1, 2, 3, 4, 5, 6, 7}}, 8},
	} {
		l, sums := taken(c.places...)
		for mirror := range 2 {
			log := empty(geometry()).both(l...)
			if len(l) < 8 {
				log[mirror][(6+len(l))%8] = nil
			}
			log[1-mirror][6] = sector(byte(i))
			log.tells(t, 6, 5, api.Tail{Txs: c.txs, Next: 6 + c.long, Chain: sums[c.long], Epoch: 3})
		}
	}
}

// P11.2: Epoch is that of the last piece that was taken, also where it is another
// one than the last transaction's; a transaction may go on in a later epoch.
func TestFollowTellsTheLastEpoch(t *testing.T) {
	l, sums := taken([2]int{0, 1}, [2]int{0, 2}, [2]int{1, 2})
	l[2].Epoch, l[2].From = 8, 8
	empty(geometry()).both(l...).tells(t, 6, 5, api.Tail{Txs: [][]byte{{0}, {1, 2}}, Next: 9, Chain: sums[3], Epoch: 8})
	l[2].Index = 0
	empty(geometry()).both(l...).tells(t, 6, 5, api.Tail{Txs: [][]byte{{0}}, Next: 7, Chain: sums[1], Epoch: 8})
	l[0].Index, l[0].Of = 1, 2
	empty(geometry()).both(l...).tells(t, 6, 5, api.Tail{Next: 6, Chain: 5, Epoch: 8})
	l[0].Epoch, l[1].Epoch, l[2].Epoch, l[2].From = 0, 0, 0, 6
	empty(geometry()).both(l...).tells(t, 6, 5, api.Tail{Next: 6, Chain: 5})
}

// P11.2: where it is told that too much is damaged, nothing is told of what is ahead.
func TestFollowDamagedBehindTransactions(t *testing.T) {
	l, _ := taken([2]int{0, 1}, [2]int{0, 1}, [2]int{0, 2}, [2]int{0, 2})
	for lost := range 5 {
		log := empty(geometry()).both(l...)
		log[0][(6+lost)%8], log[1][(6+lost)%8] = nil, nil
		log.tooMuch(t, 6, 5) // also where the tail would have ended ahead of it
	}
}

// P11.2: near the greatest number: pieces up to it are told; what would be behind it
// is looked for as any other number, though no sector tells it.
func TestFollowAtTheGreatestNumber(t *testing.T) {
	for n := 1; n < 9; n++ {
		start := top - n + 1
		l, sums := chained(geometry(), start, 3, 5, txs(make([]int, n)...)...)
		want := api.Tail{Txs: make([][]byte, n), Next: top + 1, Chain: sums[n], Epoch: 3}
		empty(geometry()).both(l...).tells(t, start, 5, want)
		if n < 8 { // 2^32 is not 0
			empty(geometry()).both(l...).both(single(0, 3, 0, sums[n])).tells(t, start, 5, want)
		}
		log := empty(geometry()).both(l...)
		log[0][0], log[1][0] = nil, nil
		log.tooMuch(t, start, 5)
	}
}

// P11.2, R2, R4: each argument that may not be, by itself and with others.
func TestFollowErrors(t *testing.T) {
	l := empty(geometry())
	wrong := func(a, b [][]byte, v int, g api.Geo, start, chain int) {
		t.Helper()
		follow(t, a, b, v, g, start, chain, api.Tail{}, api.ErrArg)
	}
	for _, n := range notWords() {
		wrong(l[0], l[1], n, geometry(), 0, 0)
		wrong(l[0], l[1], volume, geometry(), n, 0)
		wrong(l[0], l[1], volume, geometry(), 0, n)
	}
	for _, g := range badGeos() {
		wrong(l[0], l[1], volume, g, 0, 0)
		wrong(nil, nil, volume, g, 0, 0)
		few := make([][]byte, max(0, min(g.Wal, 1000)))
		wrong(few, few, volume, g, 0, 0)
	}
	for _, n := range []int{0, 1, 7, 9, 16} {
		other := make([][]byte, n)
		wrong(other, l[1], volume, geometry(), 0, 0)
		wrong(l[0], other, volume, geometry(), 0, 0)
		wrong(other, other, volume, geometry(), 0, 0)
	}
	wrong(nil, l[1], volume, geometry(), 0, 0)
	wrong(l[0], nil, volume, geometry(), 0, 0)
	// Too much is damaged, but that comes last.
	wrong(make([][]byte, 8), make([][]byte, 8), volume, geometry(), -1, 0)
	wrong(make([][]byte, 8), make([][]byte, 9), volume, geometry(), 0, 0)
	follow(t, make([][]byte, 8), make([][]byte, 8), volume, geometry(), 0, 0, api.Tail{}, api.ErrDamaged)
}

// P11.2: the least and the greatest numbers that may be, and another volume's log.
func TestFollowOfOtherVolumes(t *testing.T) {
	for _, v := range []int{0, 1, volume, top} {
		p := single(5, 0, 0, top)
		a, b := freeMirror(v, geometry(), 0), freeMirror(v, geometry(), 1)
		a[5] = sectorOf(v, geometry(), 0, p)
		follow(t, a, b, v, geometry(), 5, top, api.Tail{Txs: [][]byte{p.B}, Next: 6, Chain: sumOf(v, geometry(), p)}, api.OK)
		follow(t, a, b, v^1, geometry(), 5, top, api.Tail{}, api.ErrDamaged)
	}
}

// P11.2: sectors of the log as another geometry lays it out are not clean.
func TestFollowOfOtherGeometries(t *testing.T) {
	g := geometry()
	g.Wal = 9
	l := empty(geometry())
	a, b := append(slices.Clone(l[0]), free(volume, 12)), append(slices.Clone(l[1]), free(volume, 21))
	// Mirror 0 stands where it did, mirror 1 does not.
	follow(t, a, b, volume, g, 3, 5, api.Tail{Next: 3, Chain: 5}, api.OK)
	a[3] = nil
	follow(t, a, b, volume, g, 3, 5, api.Tail{}, api.ErrDamaged)
}

// P11.2, R3: what is answered is the caller's own: nothing of it is a mirror's, nor
// another one's of the answer.
func TestTailsAreOwn(t *testing.T) {
	all := txs(3, 450, 0, 5)
	l, _ := chained(geometry(), 0, 3, 5, all...)
	log := empty(geometry()).both(l...)
	tail, _ := ring.Follow(log[0], log[1], volume, geometry(), 0, 5)
	again, _ := ring.Follow(log[0], log[1], volume, geometry(), 0, 5)
	was := clones(log[0])
	for i := range tail.Txs {
		clear(tail.Txs[i][:cap(tail.Txs[i])])
		tail.Txs[i] = append(tail.Txs[i], 1, 2, 3)
	}
	if !slices.EqualFunc(again.Txs, all, slices.Equal) || !slices.EqualFunc(log[0], was, slices.Equal) {
		t.Error("an answer is changed with another one, or a mirror is")
	}
	for i := range log[0] {
		clear(log[0][i])
		clear(log[1][i])
	}
	if !slices.EqualFunc(again.Txs, all, slices.Equal) {
		t.Error("an answer is changed with its mirrors")
	}
	again.Txs[0] = append(again.Txs[0], 7)
	if !slices.EqualFunc(again.Txs[1:], all[1:], slices.Equal) {
		t.Error("a transaction is changed with another one")
	}
}
