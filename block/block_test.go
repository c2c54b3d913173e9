package block_test

import (
	"bytes"
	"math"
	"slices"
	"testing"

	"quartermaster/api"
	"quartermaster/block"
)

// example is the chapter's.
func example() api.Block {
	return api.Block{Kind: 3, Volume: 1, Addr: 2, Epoch: 3, Seq: 4, Body: []byte{9}}
}

// P7.1: blocks at each edge may be.
func TestMay(t *testing.T) {
	for _, b := range blocks() {
		if !block.May(b) {
			t.Errorf("May(%v) is false", b)
		}
	}
}

// P7.1: a kind from 1 to 4 alone, numbers from 0 to 2^32 - 1 alone.
func TestMayNotOfWrongNumbers(t *testing.T) {
	for _, body := range [][]byte{nil, {9}, make([]byte, 228), make([]byte, 229)} {
		for _, b := range wrongNumbers(body) {
			if block.May(b) {
				t.Errorf("May(%v) is true", b)
			}
		}
	}
	if block.May(api.Block{}) {
		t.Error("a zero block may be")
	}
}

// P7.1: a body has at most 228 bytes.
func TestMayNotOfLongBodies(t *testing.T) {
	for kind := 1; kind <= 4; kind++ {
		for long := range 300 {
			b := api.Block{Kind: kind, Body: make([]byte, long)}
			if block.May(b) != (long <= 228) {
				t.Errorf("kind %d, a body of %d: %v", kind, long, block.May(b))
			}
		}
		if block.May(api.Block{Kind: kind, Body: make([]byte, 1<<16)}) || block.May(api.Block{Kind: kind, Body: make([]byte, 1<<16+1)}) {
			t.Errorf("kind %d: a body whose length has more than 2 bytes may be", kind)
		}
	}
}

// P7.2: the chapter's example, byte by byte.
func TestSealOfExample(t *testing.T) {
	s := sealed(t, example())
	want := []byte{81, 77, 3, 0, 1, 0, 0, 0, 2, 0, 0, 0, 3, 0, 0, 0, 4, 0, 0, 0, 1, 0, 0, 0, 9}
	if len(s) != 256 || !bytes.Equal(s[:25], want) {
		t.Fatalf("%d bytes: %v", len(s), s)
	}
	if !bytes.Equal(s[25:252], make([]byte, 227)) {
		t.Errorf("behind the body: %v", s[25:252])
	}
	if !bytes.Equal(s, summed(s)) {
		t.Errorf("the sum: %v", s[252:])
	}
}

// P7.2: each number has 4 bytes, the lowest one first, the length 2.
func TestSealLaysEachByte(t *testing.T) {
	body := bytes.Repeat([]byte{7}, 228)
	s := sealed(t, api.Block{Kind: 4, Volume: 0x04030201, Addr: 0x08070605, Epoch: 0x0c0b0a09, Seq: 0xfffefdfc, Body: body})
	want := []byte{81, 77, 4, 0, 1, 2, 3, 4, 5, 6, 7, 8, 9, 10, 11, 12, 252, 253, 254, 255, 228, 0, 0, 0}
	if !bytes.Equal(s[:24], want) || !bytes.Equal(s[24:252], body) {
		t.Errorf("%v", s)
	}
}

// P7.2: each block's sector is as the chapter's words have it.
func TestSealOfEachBlock(t *testing.T) {
	for _, b := range blocks() {
		if s, want := sealed(t, b), sector(b); !bytes.Equal(s, want) {
			t.Fatalf("Seal(%v): %v, not %v", b, s, want)
		}
	}
	for long := range 229 {
		b := api.Block{Kind: 2, Seq: long, Body: bytes.Repeat([]byte{byte(long), 1}, 114)[:long]}
		if s, want := sealed(t, b), sector(b); !bytes.Equal(s, want) {
			t.Fatalf("a body of %d: %v, not %v", long, s, want)
		}
	}
}

// P7.2, P1, R4: a number that may not be is told, ahead of a body that is too long.
func TestSealTellsWrongNumbersFirst(t *testing.T) {
	for _, body := range [][]byte{nil, {}, {9}, make([]byte, 228), make([]byte, 229), make([]byte, 5000)} {
		for _, b := range wrongNumbers(body) {
			if s, err := block.Seal(b); err != api.ErrArg || len(s) > 0 {
				t.Errorf("Seal(%d %d %d %d %d, a body of %d): %v, %d", b.Kind, b.Volume, b.Addr, b.Epoch, b.Seq, len(body), s, err)
			}
		}
	}
}

// P7.2, R4: a body above 228 bytes is told.
func TestSealTellsLongBodies(t *testing.T) {
	for _, long := range []int{229, 230, 255, 256, 257, 4096, 1 << 16, 1<<16 + 1, 1<<16 + 228, 1 << 20} {
		for kind := 1; kind <= 4; kind++ {
			for _, n := range []int{0, 1, top} {
				b := api.Block{Kind: kind, Volume: n, Addr: n, Epoch: n, Seq: n, Body: make([]byte, long)}
				if s, err := block.Seal(b); err != api.ErrLong || len(s) > 0 {
					t.Errorf("a body of %d: %v, %d", long, s, err)
				}
			}
		}
	}
}

// P7.2, P7.1: what may be is sealed, and nothing else.
func TestSealOfWhatMayBe(t *testing.T) {
	r := mixed(3)
	for range 5000 {
		b := mixedBlock(r)
		if r.IntN(3) == 0 {
			b.Body = some(r, 220+r.IntN(20))
		}
		for _, number := range numbers() {
			if r.IntN(8) == 0 {
				*number(&b) = []int{-1, 0, 4, 5, top, top + 1, math.MinInt, math.MaxInt}[r.IntN(8)]
			}
		}
		if _, err := block.Seal(b); (err == api.OK) != block.May(b) {
			t.Fatalf("%v: %d, but May is %v", b, err, block.May(b))
		}
	}
}

// P7.3: bytes that are not 256 are told as such, whatever they are.
func TestOpenTellsWrongLengths(t *testing.T) {
	s := sector(example())
	for _, wrong := range [][]byte{nil, {}, {81}, s[:25], s[:252], s[:255], s[1:], append(slices.Clone(s), 0), append([]byte{0}, s...), append(slices.Clone(s), s...), make([]byte, 255), make([]byte, 257), make([]byte, 1<<16)} {
		if b, err := block.Open(wrong); err != api.ErrArg || !isZero(b) {
			t.Errorf("%d bytes: %v, %d", len(wrong), b, err)
		}
		if got := block.Class(wrong, example()); got != api.Garbage {
			t.Errorf("%d bytes: Class is %d", len(wrong), got)
		}
	}
	for long := range 600 {
		if _, err := block.Open(make([]byte, long)); (err == api.ErrArg) != (long != 256) {
			t.Errorf("%d bytes: %d", long, err)
		}
	}
}

// P7.3, P7.5: a sector of noughts is none, also where its sum is right.
func TestOpenOfNoughts(t *testing.T) {
	for _, s := range [][]byte{make([]byte, 256), summed(make([]byte, 256)), bytes.Repeat([]byte{255}, 256), summed(bytes.Repeat([]byte{255}, 256))} {
		if b, err := block.Open(s); err != api.ErrForm || !isZero(b) {
			t.Errorf("%v: %v, %d", s, b, err)
		}
		for _, want := range append(blocks(), api.Block{}, api.Block{Kind: -1}) {
			if got := block.Class(s, want); got != api.Garbage {
				t.Fatalf("%v, %v wanted: %d", s, want, got)
			}
		}
	}
}

// P7.3: each byte ahead of the sum otherwise, with the sum made anew: it is told, or
// it is another block's.
func TestOpenOfEachByteOtherwise(t *testing.T) {
	r := mixed(4)
	for _, long := range []int{0, 1, 100, 228} {
		s := sector(api.Block{Kind: 3, Volume: 1, Addr: 2, Epoch: 3, Seq: 4, Body: some(r, long)})
		for at := range atSum {
			open := 0
			for to := range 256 {
				c := slices.Clone(s)
				c[at] = byte(to)
				if opens(t, summed(c)) == api.OK {
					open++
				}
			}
			// How many open by the words alone, place by place.
			want := 1
			switch {
			case at == 2:
				want = 4
			case at >= atVolume && at < atLong || at >= atBody && at < atBody+long:
				want = 256
			case at == atLong:
				continue // a body may end in noughts, and noughts may be a body's: opened reckons with that
			}
			if open != want {
				t.Fatalf("a body of %d, at %d: %d open, not %d", long, at, open, want)
			}
		}
	}
}

// P7.3: each bit otherwise, the sum as it was, or a wrong sum of right bytes.
func TestOpenOfWrongSums(t *testing.T) {
	for _, b := range []api.Block{example(), {Kind: 1}, {Kind: 4, Volume: top, Addr: top, Epoch: top, Seq: top, Body: bytes.Repeat([]byte{255}, 228)}} {
		s := sealed(t, b)
		for at := range s {
			for to := 1; to < 256; to++ {
				c := slices.Clone(s)
				c[at] ^= byte(to)
				if got, err := block.Open(c); err != api.ErrForm || !isZero(got) {
					t.Fatalf("%v, at %d turned by %d: %v, %d", b, at, to, got, err)
				}
			}
		}
		turned := slices.Clone(s)
		slices.Reverse(turned[atSum:]) // the highest byte first
		if opens(t, turned) != api.ErrForm {
			t.Errorf("%v: its sum the other way round opens", b)
		}
		copy(turned[atSum:], make([]byte, 4))
		if opens(t, turned) != api.ErrForm {
			t.Errorf("%v: without a sum it opens", b)
		}
	}
}

// P7.3: all lengths of 2 bytes, with bodies that are laid for them and such as
// are not, and with the sum made anew.
func TestOpenOfEachLength(t *testing.T) {
	filled := bytes.Repeat([]byte{7}, 228)
	for _, long := range []int{0, 1, 2, 100, 227, 228} {
		s := sector(api.Block{Kind: 2, Volume: 5, Body: filled[:long]})
		for said := range 1 << 16 {
			if said > 1000 && said%251 > 3 && said&0xff00 != said && said < 65500 {
				continue
			}
			c := slices.Clone(s)
			c[atLong], c[atLong+1] = byte(said), byte(said>>8)
			err := opens(t, summed(c))
			if (err == api.OK) != (said >= long && said <= 228) {
				t.Fatalf("a body of %d that is said to be of %d: %d", long, said, err)
			}
			if said > 228 {
				continue
			}
			copy(c[atBody:atSum], make([]byte, 228))
			copy(c[atBody:], filled[:said])
			if opens(t, summed(c)) != api.OK {
				t.Fatalf("a body of %d does not open", said)
			}
			if said != long && opens(t, c) != api.ErrForm {
				t.Fatalf("a body of %d with the sum of %d opens", said, long)
			}
		}
	}
}

// P7.3: what stands behind a body is noughts, at each place of it, also where its sum is right.
func TestOpenTellsWhatIsBehindTheBody(t *testing.T) {
	for long := range 228 {
		s := sector(api.Block{Kind: 4, Body: bytes.Repeat([]byte{3}, long)})
		for at := atBody + long; at < atSum; at++ {
			c := slices.Clone(s)
			c[at] = 1
			if opens(t, summed(c)) != api.ErrForm {
				t.Fatalf("a body of %d, and something at %d: it opens", long, at)
			}
		}
	}
}

// P7.3: sectors that are mixed up in several places at once, with a right sum.
func TestOpenOfMixedSectors(t *testing.T) {
	r := mixed(5)
	open := 0
	for range 30000 {
		s := sector(mixedBlock(r))
		for range r.IntN(4) {
			switch r.IntN(3) {
			case 0:
				s[r.IntN(atBody)] = byte(r.IntN(6))
			case 1:
				s[r.IntN(256)] = byte(r.Uint32())
			default:
				s[atLong] = byte(r.Uint32())
			}
		}
		if r.IntN(4) > 0 {
			s = summed(s)
		}
		if opens(t, s) == api.OK {
			open++
		}
	}
	if open < 3000 || open > 27000 {
		t.Errorf("%d of 30000 open: too few, or too many, to tell anything", open)
	}
}

// P7.4: a sector that is what is wanted, whatever body is wanted.
func TestClassGood(t *testing.T) {
	for _, b := range blocks() {
		s := sector(b)
		for _, body := range [][]byte{b.Body, nil, {1, 2, 3}, make([]byte, 229), make([]byte, 5000)} {
			want := b
			want.Body = body
			if got := block.Class(s, want); got != api.Good {
				t.Fatalf("%v, with a body of %d: %d", b, len(body), got)
			}
		}
	}
}

// others are numbers that n is not; some share bytes with it.
func others(n int) []int {
	return []int{n + 1, n - 1, n + 256, n + 1<<16, n + 1<<24, n + 1<<32, n - 1<<32, n + 1<<40, -n - 1, ^n, math.MinInt, math.MaxInt}
}

// P7.4: numbers that are wanted otherwise, each alone and all of them together.
func TestClassOfEachNumberOtherwise(t *testing.T) {
	for _, b := range []api.Block{example(), {Kind: 1}, {Kind: 4, Volume: top, Addr: top, Epoch: top, Seq: top, Body: make([]byte, 228)}, {Kind: 2, Volume: 2, Addr: 2, Epoch: 2, Seq: 2}} {
		s := sealed(t, b)
		for i := range others(0) {
			for which := range 1 << len(numbers()) {
				want, foreign, stale := b, false, false
				for k, number := range numbers() {
					if which>>k&1 == 0 {
						continue
					}
					n := number(&want)
					*n = others(*n)[i]
					foreign, stale = foreign || k < 2, stale || k >= 2 // Volume and Addr are the first two
				}
				class := api.Good
				if foreign {
					class = api.Foreign
				} else if stale {
					class = api.Stale
				}
				if got := block.Class(s, want); got != class {
					t.Fatalf("%v, %v wanted: %d, not %d", b, want, got, class)
				}
			}
		}
	}
}

// P7.4: a zero block, and ones that may not be, may be wanted, too.
func TestClassOfWantsThatMayNotBe(t *testing.T) {
	zeros := sector(api.Block{Kind: 1})
	if got := block.Class(zeros, api.Block{}); got != api.Stale {
		t.Errorf("a zero block wanted: %d", got)
	}
	if got := block.Class(zeros, api.Block{Kind: 1}); got != api.Good {
		t.Errorf("a free one wanted: %d", got)
	}
	for _, want := range wrongNumbers(make([]byte, 229)) {
		b := example()
		class := api.Stale
		if want.Volume != b.Volume || want.Addr != b.Addr {
			class = api.Foreign
		}
		if got := block.Class(sector(b), want); got != class {
			t.Errorf("%v wanted: %d, not %d", want, got, class)
		}
		if got := block.Class(nil, want); got != api.Garbage {
			t.Errorf("%v wanted of nothing: %d", want, got)
		}
	}
}

// P7.4: Garbage is told first: of a sector that does not open, whatever it
// would be otherwise.
func TestClassTellsGarbageFirst(t *testing.T) {
	b := example()
	for _, at := range []int{0, 1, 2, 3, 4, 8, 12, 16, 20, 22, 23, 24, 25, 251, 252, 255} {
		s := sector(b)
		s[at] ^= 64
		for _, want := range append(blocks(), b, api.Block{}) {
			if got := block.Class(s, want); got != api.Garbage {
				t.Fatalf("at %d, %v wanted: %d", at, want, got)
			}
		}
	}
}

// P7.5: what was sealed is opened as it was.
func TestWhatIsSealedIsOpened(t *testing.T) {
	for _, b := range blocks() {
		got, err := block.Open(sealed(t, b))
		if err != api.OK || !same(got, b) {
			t.Fatalf("%v: %v, %d", b, got, err)
		}
	}
}

// P7.5: what opens would be sealed as the same bytes: two blocks have never one sector.
func TestWhatIsOpenedIsSealedAsItWas(t *testing.T) {
	r := mixed(6)
	for range 3000 {
		s := sector(mixedBlock(r))
		s[atLong] = byte(r.IntN(229))
		s = summed(s)
		b, err := block.Open(s)
		if err == api.OK && !bytes.Equal(sealed(t, b), s) {
			t.Fatalf("%v is opened as %v", s, b)
		}
	}
}

// P7.5: up to 4 bytes in a row that are changed, at each place: turned, wiped,
// filled, and with as many bytes as are there.
func TestChangesOfUpToFourBytesAreGarbage(t *testing.T) {
	r := mixed(7)
	for _, b := range []api.Block{example(), {Kind: 1}, {Kind: 4, Volume: top, Addr: 1, Seq: 99, Body: some(r, 228)}, mixedBlock(r)} {
		s := sealed(t, b)
		wants := append([]api.Block{b, {}}, wrongNumbers(nil)[:3]...)
		garbage := func(c []byte) {
			t.Helper()
			if _, err := block.Open(c); err != api.ErrForm {
				t.Fatalf("%v, changed to %v: %d", b, c, err)
			}
			for _, want := range wants {
				if got := block.Class(c, want); got != api.Garbage {
					t.Fatalf("%v, changed to %v, %v wanted: %d", b, c, want, got)
				}
			}
		}
		for at := range s {
			for wide := 1; wide <= min(4, len(s)-at); wide++ {
				for range 6 {
					c := slices.Clone(s)
					bits := some(r, wide)
					bits[r.IntN(wide)] |= 1 << r.IntN(8) // at least one bit is changed
					for i, turned := range bits {
						c[at+i] ^= turned
					}
					garbage(c)
				}
				for _, with := range []byte{0, 255} {
					c := slices.Clone(s)
					copy(c[at:at+wide], bytes.Repeat([]byte{with}, wide))
					if !bytes.Equal(c, s) {
						garbage(c)
					}
				}
			}
		}
	}
}

// P7.5: 4 bytes in a row that are changed so that the length, or the kind, is
// another one that may be.
func TestChangesOfTheHeadAreGarbage(t *testing.T) {
	s := sealed(t, api.Block{Kind: 3, Volume: 1, Addr: 2, Epoch: 3, Seq: 4, Body: make([]byte, 100)})
	for said := range 229 {
		c := slices.Clone(s)
		c[atLong] = byte(said)
		if said != 100 && block.Class(c, example()) != api.Garbage {
			t.Errorf("said to be of %d: it opens", said)
		}
	}
	for kind := range 256 {
		c := slices.Clone(s)
		c[2] = byte(kind)
		want := example()
		want.Kind = kind
		if kind != 3 && block.Class(c, want) != api.Garbage {
			t.Errorf("kind %d: it opens", kind)
		}
	}
}

// R3: what is handed in stays as it was, also behind its end, where its memory
// goes on.
func TestWhatIsHandedInStays(t *testing.T) {
	memory := bytes.Repeat([]byte{5}, 400)
	for _, long := range []int{0, 1, 227, 228, 229} {
		b := example()
		b.Body = memory[:long]
		block.May(b)
		s, _ := block.Seal(b)
		block.Class(s, b)
		if !bytes.Equal(memory, bytes.Repeat([]byte{5}, 400)) || len(b.Body) != long {
			t.Fatalf("a body of %d: the memory became %v", long, memory)
		}
	}
	for _, s := range [][]byte{sector(example()), sector(api.Block{Kind: 4, Body: bytes.Repeat([]byte{5}, 228)}), make([]byte, 256)} {
		room := append(slices.Clone(s), 1, 2, 3, 4)
		ahead := slices.Clone(room)
		block.Open(room[:256])
		block.Class(room[:256], example())
		if !bytes.Equal(room, ahead) {
			t.Fatalf("a sector became %v", room)
		}
	}
}

// R3: what Seal answers is the caller's own.
func TestSectorsAreTheCallersOwn(t *testing.T) {
	for _, long := range []int{0, 1, 228} {
		b := example()
		b.Body = bytes.Repeat([]byte{5}, long)
		one, two := sealed(t, b), sealed(t, b)
		want := slices.Clone(two)
		for i := range one {
			one[i] ^= 255
		}
		_ = append(one, 9)
		if !bytes.Equal(two, want) || !bytes.Equal(b.Body, bytes.Repeat([]byte{5}, long)) {
			t.Errorf("a body of %d: it became %v, and another sector %v", long, b.Body, two)
		}
		for i := range b.Body {
			b.Body[i] ^= 255
		}
		if !bytes.Equal(two, want) {
			t.Errorf("a body of %d: the sector became %v", long, two)
		}
	}
}

// R3: what Open answers is the caller's own.
func TestBodiesAreTheCallersOwn(t *testing.T) {
	for _, long := range []int{0, 1, 2, 100, 228} {
		s := sector(api.Block{Kind: 2, Body: bytes.Repeat([]byte{5}, long)})
		ahead := slices.Clone(s)
		one, _ := block.Open(s)
		two, _ := block.Open(s)
		_ = append(one.Body, 1, 2, 3)
		for i := range one.Body {
			one.Body[i] = 8
		}
		if !bytes.Equal(s, ahead) || !bytes.Equal(two.Body, bytes.Repeat([]byte{5}, long)) {
			t.Errorf("a body of %d: the sector became %v, another body %v", long, s, two.Body)
		}
		for i := range s {
			s[i] ^= 255
		}
		if !bytes.Equal(two.Body, bytes.Repeat([]byte{5}, long)) {
			t.Errorf("a body of %d became %v", long, two.Body)
		}
	}
}

// R5: answers hang on nothing that was asked before, nor at the same time.
func TestNothingIsKept(t *testing.T) {
	want := sector(example())
	answers := make(chan bool)
	for i := range 4 {
		go func() {
			right := true
			for n := range 200 {
				block.Seal(api.Block{Kind: n % 6, Volume: i, Body: make([]byte, n+40)})
				block.Open(want[:n])
				s, err := block.Seal(example())
				b, wrong := block.Open(s)
				right = right && err == api.OK && wrong == api.OK && bytes.Equal(s, want) && same(b, example()) && block.Class(want, b) == api.Good
			}
			answers <- right
		}()
	}
	for range 4 {
		if !<-answers {
			t.Error("an answer hung on others")
		}
	}
}
