package gf_test

import (
	"math"
	"testing"

	"quartermaster/api"
	"quartermaster/gf"
)

// all is every number of the field.
func all() []byte {
	l := make([]byte, 256)
	for i := range l {
		l[i] = byte(i)
	}
	return l
}

// fields are the field in each of its forms: made, nil, zero, and copied.
func fields() map[string]*gf.Field {
	copied := *gf.New()
	return map[string]*gf.Field{"new": gf.New(), "nil": nil, "zero": {}, "copied": &copied}
}

// product is the remainder of a product, by the words of the chapter alone:
// polynomials are multiplied without carry, and divided from the top.
func product(a, b byte) byte {
	p := 0
	for k := range 8 {
		if b>>k&1 == 1 {
			p ^= int(a) << k
		}
	}
	for k := 14; k >= 8; k-- {
		if p>>k&1 == 1 {
			p ^= 285 << (k - 8)
		}
	}
	return byte(p)
}

// P1.1: sums are the bits that one of both has, but not the other one.
func TestAddTellsTheBitsOfJustOne(t *testing.T) {
	for name, f := range fields() {
		for _, a := range all() {
			for _, b := range all() {
				var want byte
				for k := range 8 {
					if a>>k&1 != b>>k&1 {
						want |= 1 << k
					}
				}
				if got := f.Add(a, b); got != want {
					t.Fatalf("%s: Add(%d, %d) = %d, not %d", name, a, b, got, want)
				}
			}
		}
	}
}

// P1.1: products are remainders, also of a nil and a zero Field.
func TestMulIsTheRemainderOfTheProduct(t *testing.T) {
	for name, f := range fields() {
		for _, a := range all() {
			for _, b := range all() {
				if got, want := f.Mul(a, b), product(a, b); got != want {
					t.Fatalf("%s: Mul(%d, %d) = %d, not %d", name, a, b, got, want)
				}
			}
		}
	}
}

func TestExamples(t *testing.T) {
	for name, f := range fields() {
		for _, c := range []struct{ a, b, want byte }{{2, 128, 29}, {3, 7, 9}, {16, 16, 29}, {0, 0, 0}, {0, 255, 0}, {255, 0, 0}, {1, 255, 255}} {
			if got := f.Mul(c.a, c.b); got != c.want {
				t.Errorf("%s: Mul(%d, %d) = %d, not %d", name, c.a, c.b, got, c.want)
			}
		}
		if got, err := f.Inv(2); got != 142 || err != api.OK {
			t.Errorf("%s: Inv(2) = %d, %d", name, got, err)
		}
		if got := f.Exp(8); got != 29 {
			t.Errorf("%s: Exp(8) = %d", name, got)
		}
		if got, err := f.Log(29); got != 8 || err != api.OK {
			t.Errorf("%s: Log(29) = %d, %d", name, got, err)
		}
	}
}

// P1.2: a quotient is the one number that, multiplied, is what was divided.
func TestDivIsTheOneThatMultipliesBack(t *testing.T) {
	for name, f := range fields() {
		for _, c := range all() {
			for _, b := range all()[1:] {
				a := product(c, b)
				if got, err := f.Div(a, b); got != c || err != api.OK {
					t.Fatalf("%s: Div(%d, %d) = %d, %d, not %d", name, a, b, got, err, c)
				}
			}
		}
	}
}

// P1.2: nothing is divided by 0, not even 0; with the error comes a zero.
func TestDivByZero(t *testing.T) {
	for name, f := range fields() {
		for _, a := range all() {
			if got, err := f.Div(a, 0); got != 0 || err != api.ErrZero {
				t.Errorf("%s: Div(%d, 0) = %d, %d", name, a, got, err)
			}
		}
	}
}

// P1.2: an inverse is the quotient of 1, and 0 has none.
func TestInv(t *testing.T) {
	for name, f := range fields() {
		if got, err := f.Inv(0); got != 0 || err != api.ErrZero {
			t.Errorf("%s: Inv(0) = %d, %d", name, got, err)
		}
		for _, a := range all()[1:] {
			got, err := f.Inv(a)
			if err != api.OK || product(got, a) != 1 {
				t.Errorf("%s: Inv(%d) = %d, %d", name, a, got, err)
			}
		}
	}
}

// P1.3: powers of Two, by multiplying it again and again, round and round.
func TestExpIsThePowerModulo255(t *testing.T) {
	for name, f := range fields() {
		power := byte(1)
		for n := range 3 * 255 {
			for _, m := range []int{n, n - 3*255, n + 255*1000000007, n - 255*1000000007} {
				if got := f.Exp(m); got != power {
					t.Fatalf("%s: Exp(%d) = %d, not %d", name, m, got, power)
				}
			}
			power = product(power, 2)
		}
	}
}

// P1.3: the edges of n. 2^8 is 1 modulo 255, so 2^63 is 2^7: 128.
func TestExpAtTheEdges(t *testing.T) {
	for name, f := range fields() {
		for _, c := range []struct {
			n    int
			same int
		}{{0, 0}, {254, 254}, {255, 0}, {256, 1}, {-1, 254}, {-254, 1}, {-255, 0}, {-256, 254}, {math.MaxInt64, 127}, {math.MinInt64, 127}, {math.MinInt64 + 1, 128}} {
			want := byte(1)
			for range c.same {
				want = product(want, 2)
			}
			if got := f.Exp(c.n); got != want {
				t.Errorf("%s: Exp(%d) = %d, not %d", name, c.n, got, want)
			}
		}
	}
}

// P1.3: which power a number is, from 0 to 254; 0 is none.
func TestLog(t *testing.T) {
	for name, f := range fields() {
		if got, err := f.Log(0); got != 0 || err != api.ErrZero {
			t.Errorf("%s: Log(0) = %d, %d", name, got, err)
		}
		power := byte(1)
		for n := range 255 {
			if got, err := f.Log(power); got != n || err != api.OK {
				t.Errorf("%s: Log(%d) = %d, %d, not %d", name, power, got, err, n)
			}
			power = product(power, 2)
		}
	}
}

// Each number but 0 is a power of Two, and just one of those from 0 to 254.
func TestEachNumberIsOnePower(t *testing.T) {
	for name, f := range fields() {
		seen := map[byte]int{}
		for n := range 255 {
			seen[f.Exp(n)]++
		}
		if len(seen) != 255 || seen[0] != 0 {
			t.Errorf("%s: %d powers, 0 %d times among them", name, len(seen), seen[0])
		}
	}
}

// P1.4: sums and products of two may be taken in any order; 0 and 1 change
// nothing; what is added, or multiplied, may be taken back.
func TestLawsOfPairs(t *testing.T) {
	f := gf.New()
	for _, a := range all() {
		if f.Add(a, 0) != a || f.Mul(a, 1) != a || f.Mul(a, 0) != 0 || f.Add(a, a) != 0 {
			t.Fatalf("0 and 1, with %d", a)
		}
		for _, b := range all() {
			if f.Add(a, b) != f.Add(b, a) || f.Mul(a, b) != f.Mul(b, a) {
				t.Fatalf("order of %d and %d", a, b)
			}
			if f.Add(f.Add(a, b), b) != a {
				t.Fatalf("%d is not taken from %d again", b, a)
			}
			if b == 0 {
				continue
			}
			if c, err := f.Div(f.Mul(a, b), b); c != a || err != api.OK {
				t.Fatalf("%d times %d, divided again: %d, %d", a, b, c, err)
			}
			c, err := f.Div(a, b)
			if f.Mul(c, b) != a || err != api.OK {
				t.Fatalf("%d by %d, multiplied again: %d, %d", a, b, c, err)
			}
		}
	}
}

// P1.4: sums and products of three may be taken in any order, and products are
// spread over sums.
func TestLawsOfThree(t *testing.T) {
	f := gf.New()
	for _, a := range all() {
		for _, b := range all() {
			ab, sum := f.Mul(a, b), f.Add(a, b)
			for _, c := range all() {
				if f.Add(sum, c) != f.Add(a, f.Add(b, c)) {
					t.Fatalf("sum of %d, %d, %d", a, b, c)
				}
				if f.Mul(ab, c) != f.Mul(a, f.Mul(b, c)) {
					t.Fatalf("product of %d, %d, %d", a, b, c)
				}
				if f.Mul(sum, c) != f.Add(f.Mul(a, c), f.Mul(b, c)) {
					t.Fatalf("%d and %d, times %d", a, b, c)
				}
			}
		}
	}
}

// R3: each Field is the caller's own; to overwrite one changes no other one,
// and what is overwritten by nothing is still the field.
func TestFieldsAreTheirOwn(t *testing.T) {
	f, g := gf.New(), gf.New()
	*f = gf.Field{}
	for _, a := range all() {
		if want := product(a, 29); f.Mul(a, 29) != want || g.Mul(a, 29) != want {
			t.Fatalf("%d times 29: %d and %d, not %d", a, f.Mul(a, 29), g.Mul(a, 29), want)
		}
	}
}

// R3, R5: calls turn no Field, not even one that has nothing yet.
func TestCallsTurnNothing(t *testing.T) {
	for name, f := range fields() {
		if f == nil {
			continue
		}
		ahead := *f
		f.Add(3, 7)
		f.Mul(3, 7)
		f.Div(3, 7)
		f.Div(3, 0)
		f.Inv(3)
		f.Exp(-3)
		f.Log(3)
		if *f != ahead {
			t.Errorf("%s: a call turned it", name)
		}
	}
}

// R5: calls at the same time answer as one by one (run with -race, this tells
// of tables that are filled on the spot).
func TestCallsAtTheSameTime(t *testing.T) {
	f := &gf.Field{}
	answers := make(chan byte)
	for range 4 {
		go func() { answers <- f.Mul(16, 16) }()
	}
	for range 4 {
		if got := <-answers; got != 29 {
			t.Errorf("Mul(16, 16) = %d", got)
		}
	}
}
