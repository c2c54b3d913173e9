package block_test

import (
	"bytes"
	"encoding/binary"
	"hash/crc32"
	"math"
	"math/rand/v2"
	"slices"
	"testing"

	"quartermaster/api"
	"quartermaster/block"
)

// What stands where in a sector, by the chapter.
const (
	atVolume = 4
	atAddr   = 8
	atEpoch  = 12
	atSeq    = 16
	atLong   = 20
	atNought = 22
	atBody   = 24
	atSum    = 252
)

// top is the greatest number that a block may have.
const top = 1<<32 - 1

func mixed(seed uint64) *rand.Rand { return rand.New(rand.NewPCG(seed, 7)) }

// some are bytes that are mixed up, the same ones in each run.
func some(r *rand.Rand, long int) []byte {
	b := make([]byte, long)
	for i := range b {
		b[i] = byte(r.Uint32())
	}
	return b
}

// summed lays the sum anew at the end of a copy of a sector.
func summed(s []byte) []byte {
	c := slices.Clone(s)
	binary.LittleEndian.PutUint32(c[atSum:], crc32.Checksum(c[:atSum], crc32.MakeTable(crc32.Castagnoli)))
	return c
}

// sector is the one of a block by the words of the chapter alone, by the
// library's sum.
func sector(b api.Block) []byte {
	s := make([]byte, 256)
	s[0], s[1], s[2] = 81, 77, byte(b.Kind)
	binary.LittleEndian.PutUint32(s[atVolume:], uint32(b.Volume))
	binary.LittleEndian.PutUint32(s[atAddr:], uint32(b.Addr))
	binary.LittleEndian.PutUint32(s[atEpoch:], uint32(b.Epoch))
	binary.LittleEndian.PutUint32(s[atSeq:], uint32(b.Seq))
	binary.LittleEndian.PutUint16(s[atLong:], uint16(len(b.Body)))
	copy(s[atBody:atSum], b.Body)
	return summed(s)
}

// opened is what a sector is of, and what is wrong with it, thing by thing.
func opened(s []byte) (api.Block, api.Errno) {
	if len(s) != 256 {
		return api.Block{}, api.ErrArg
	}
	long := int(s[atLong]) + 256*int(s[atLong+1])
	marked := s[0] == 81 && s[1] == 77 && s[2] >= 1 && s[2] <= 4 && s[3] == 0
	noughts := s[atNought] == 0 && s[atNought+1] == 0
	if !marked || !noughts || long > 228 || !bytes.Equal(s, summed(s)) {
		return api.Block{}, api.ErrForm
	}
	if slices.ContainsFunc(s[atBody+long:atSum], func(x byte) bool { return x != 0 }) {
		return api.Block{}, api.ErrForm
	}
	word := func(at int) int { return int(binary.LittleEndian.Uint32(s[at:])) }
	return api.Block{Kind: int(s[2]), Volume: word(atVolume), Addr: word(atAddr), Epoch: word(atEpoch), Seq: word(atSeq), Body: s[atBody : atBody+long]}, api.OK
}

// same tells whether two blocks are one: no body is as good as an empty one.
func same(a, b api.Block) bool {
	return a.Kind == b.Kind && a.Volume == b.Volume && a.Addr == b.Addr && a.Epoch == b.Epoch && a.Seq == b.Seq && bytes.Equal(a.Body, b.Body)
}

// isZero tells whether a block is as Go makes one, but for a list that may be nil or empty.
func isZero(b api.Block) bool { return same(b, api.Block{}) }

// words are numbers that a block may have, about each edge.
func words() []int {
	return []int{0, 1, 2, 255, 256, 257, 1 << 16, 1<<16 - 1, 1 << 24, 1<<24 - 1, 16909060, 1 << 31, 1<<31 - 1, top - 1, top}
}

// bodies are of each length that the issue names, and of others: mixed up, all
// noughts, all bits, and such as end in noughts.
func bodies() [][]byte {
	r := mixed(1)
	l := [][]byte{nil, {}}
	for _, long := range []int{1, 2, 3, 4, 100, 127, 128, 200, 226, 227, 228} {
		b := some(r, long)
		ends := slices.Clone(b)
		ends[long-1] = 0
		l = append(l, b, ends, make([]byte, long), bytes.Repeat([]byte{255}, long))
	}
	return l
}

// blocks are many that may be.
func blocks() []api.Block {
	var l []api.Block
	for kind := 1; kind <= 4; kind++ {
		for _, body := range bodies() {
			l = append(l, api.Block{Kind: kind, Volume: 1, Addr: 2, Epoch: 3, Seq: 4, Body: body})
		}
		for _, n := range words() {
			b := api.Block{Kind: kind, Body: []byte{9}}
			for _, field := range fields() {
				one := b
				*field(&one) = n
				l = append(l, one)
			}
			l = append(l, api.Block{Kind: kind, Volume: n, Addr: n, Epoch: n, Seq: n})
		}
	}
	r := mixed(2)
	for range 300 {
		l = append(l, mixedBlock(r))
	}
	return l
}

// mixedBlock is one that may be.
func mixedBlock(r *rand.Rand) api.Block {
	word := func() int { return int(r.Uint32() >> r.IntN(32)) }
	return api.Block{Kind: 1 + r.IntN(4), Volume: word(), Addr: word(), Epoch: word(), Seq: word(), Body: some(r, r.IntN(229))}
}

// fields are the numbers of a block that go from 0 on.
func fields() []func(b *api.Block) *int {
	return []func(b *api.Block) *int{
		func(b *api.Block) *int { return &b.Volume },
		func(b *api.Block) *int { return &b.Addr },
		func(b *api.Block) *int { return &b.Epoch },
		func(b *api.Block) *int { return &b.Seq },
	}
}

// numbers are all of a block.
func numbers() []func(b *api.Block) *int {
	return append(fields(), func(b *api.Block) *int { return &b.Kind })
}

// wrongKinds and wrongWords are none of a block.
func wrongKinds() []int {
	return []int{0, 5, 6, -1, -3, 255, 256, 257, 259, 1<<32 + 3, -(1 << 32) + 3, math.MaxInt, math.MinInt}
}

func wrongWords() []int {
	return []int{-1, -2, -256, top + 1, top + 2, -top, -top - 1, 1 << 33, 1 << 40, math.MaxInt, math.MinInt}
}

// wrongNumbers are blocks of which one number may not be, or all of them.
func wrongNumbers(body []byte) []api.Block {
	right := api.Block{Kind: 3, Volume: 1, Addr: 2, Epoch: 3, Seq: 4, Body: body}
	var l []api.Block
	for _, kind := range wrongKinds() {
		b := right
		b.Kind = kind
		l = append(l, b)
	}
	for _, n := range wrongWords() {
		for _, field := range fields() {
			b := right
			*field(&b) = n
			l = append(l, b)
		}
		l = append(l, api.Block{Kind: 1, Volume: n, Addr: n, Epoch: n, Seq: n, Body: body}, api.Block{Kind: n, Volume: n, Addr: n, Epoch: n, Seq: n, Body: body})
	}
	return append(l, api.Block{Body: body})
}

// sealed is the sector of a block that may be.
func sealed(t *testing.T, b api.Block) []byte {
	t.Helper()
	s, err := block.Seal(b)
	if err != api.OK {
		t.Fatalf("Seal(%v): %d", b, err)
	}
	return s
}

// opens tells what is answered of a sector, and whether it is as it should be.
func opens(t *testing.T, s []byte) api.Errno {
	t.Helper()
	want, wrong := opened(s)
	b, err := block.Open(s)
	if err != wrong || !same(b, want) {
		t.Fatalf("Open(%v): %v, %d, not %v, %d", s, b, err, want, wrong)
	}
	return err
}
