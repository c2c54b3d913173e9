// Package gf is layer 1: see shared/doc/01-gf.md.
package gf

import "quartermaster/api"

const (
	// modulus is X^8 + X^4 + X^3 + X^2 + 1, by which remainders are taken.
	modulus = 285
	// size is how many numbers the field has.
	size = 256
	// powers is how many powers of Two differ: all numbers but 0.
	powers = size - 1
)

// Field is the field: Two's powers, and which power each number is. A zero one
// has no tables, and stands for the field all the same.
type Field struct {
	exp [powers]byte
	log [size]byte // of 0 nothing is said
}

// New is the field.
func New() *Field {
	f := &Field{}
	eachPower(func(n int, power byte) {
		f.exp[n] = power
		f.log[power] = byte(n)
	})
	return f
}

// eachPower hands on Two's powers, from that of 0 on, till they come again.
func eachPower(hand func(n int, power byte)) {
	power := byte(1)
	for n := range powers {
		hand(n, power)
		power = double(power)
	}
}

// double is a times Two.
func double(a byte) byte {
	twice := int(a) << 1
	if twice >= size {
		twice ^= modulus
	}
	return byte(twice)
}

// filled is a field with tables. A zero one is not filled on the spot: calls
// that only read could then not be made at the same time.
func (f *Field) filled() *Field {
	if f == nil || f.exp[0] == 0 { // no power is 0, so these tables were never filled
		return New()
	}
	return f
}

// Add, Mul, Div and Inv are its sums, products, quotients and inverses.
func (f *Field) Add(a, b byte) byte { return a ^ b }

func (f *Field) Mul(a, b byte) byte {
	if a == 0 || b == 0 {
		return 0
	}
	t := f.filled()
	return t.Exp(int(t.log[a]) + int(t.log[b]))
}

func (f *Field) Div(a, b byte) (byte, api.Errno) {
	if b == 0 {
		return 0, api.ErrZero
	}
	if a == 0 {
		return 0, api.OK
	}
	t := f.filled()
	return t.Exp(int(t.log[a]) - int(t.log[b])), api.OK
}

func (f *Field) Inv(a byte) (byte, api.Errno) { return f.Div(1, a) }

// Exp is a power of two, Log which power one is.
func (f *Field) Exp(n int) byte {
	rest := n % powers
	if rest < 0 { // Go's remainder has the sign of n
		rest += powers
	}
	return f.filled().exp[rest]
}

func (f *Field) Log(a byte) (int, api.Errno) {
	if a == 0 {
		return 0, api.ErrZero
	}
	return int(f.filled().log[a]), api.OK
}
