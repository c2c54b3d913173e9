package mat_test

import (
	"bytes"
	"math"
	"math/rand/v2"
	"slices"
	"testing"

	"quartermaster/api"
	"quartermaster/mat"
)

// product is the field's, by its words alone: polynomials are multiplied
// without carry, and divided by the number 285 from the top.
func product(a, b byte) byte {
	p := 0
	for k := range 8 {
		if b>>k&1 == 1 {
			p ^= int(a) << k
		}
	}
	for k := 14; k >= 8; k-- {
		if p>>k&1 == 1 {
			p ^= 285 << (k - 8)
		}
	}
	return byte(p)
}

// products are all products, so that long tests need not work each out again.
var products = func() (l [256][256]byte) {
	for a := range 256 {
		for b := range 256 {
			l[a][b] = product(byte(a), byte(b))
		}
	}
	return l
}()

// inverse is the number whose product with a is 1; there is none of 0.
func inverse(a byte) byte { return byte(bytes.IndexByte(products[a][:], 1)) }

// filled is a matrix whose numbers are told by their row and column.
func filled(rows, cols int, number func(i, k int) byte) [][]byte {
	m := make([][]byte, rows)
	for i := range m {
		m[i] = make([]byte, cols)
		for k := range m[i] {
			m[i][k] = number(i, k)
		}
	}
	return m
}

// some is a matrix of numbers that are mixed up, the same ones in each run.
func some(r *rand.Rand, rows, cols int) [][]byte {
	return filled(rows, cols, func(i, k int) byte { return byte(r.Uint32()) })
}

func mixed(seed uint64) *rand.Rand { return rand.New(rand.NewPCG(seed, 2)) }

// same is the matrix with 1 where row and column are the same.
func same(n int) [][]byte {
	return filled(n, n, func(i, k int) byte {
		if i == k {
			return 1
		}
		return 0
	})
}

// multiplied is the product, number by number, by the words of P2.2.
func multiplied(a, b [][]byte) [][]byte {
	return filled(len(a), len(b[0]), func(i, k int) byte {
		var sum byte
		for j := range b {
			sum ^= products[a[i][j]][b[j][k]]
		}
		return sum
	})
}

func equal(a, b [][]byte) bool { return slices.EqualFunc(a, b, bytes.Equal) }

func copied(m [][]byte) [][]byte {
	if m == nil {
		return nil
	}
	c := make([][]byte, len(m))
	for i := range m {
		c[i] = bytes.Clone(m[i])
	}
	return c
}

// wrong are matrices that may not be.
func wrong() map[string][][]byte {
	number := func(i, k int) byte { return 1 }
	last := filled(64, 3, number)
	last[63] = last[63][:2]
	longer := filled(2, 3, number)
	longer[1] = append(longer[1], 1)
	return map[string][][]byte{
		"nil":                  nil,
		"no rows":              {},
		"one row of nothing":   {{}},
		"one nil row":          {nil},
		"rows of nothing":      {{}, {}, {}},
		"a nil row behind":     {{1}, nil},
		"a nil row ahead":      {nil, {1}},
		"a short row in it":    {{1, 2}, {1}, {1, 2}},
		"a short row at last":  last,
		"a longer row behind":  longer,
		"65 rows":              filled(65, 65, number),
		"1000 rows":            filled(1000, 1, number),
		"65 rows of nothing":   make([][]byte, 65),
		"4097 columns":         filled(1, 4097, number),
		"64 of 4097 columns":   filled(64, 4097, number),
		"one of 4097 among 64": append(filled(63, 4096, number), make([]byte, 4097)),
	}
}

// P2.1: from 1 to 64 rows of one length, from 1 to 4096, whatever stands there.
func TestMay(t *testing.T) {
	r := mixed(1)
	for _, rows := range []int{1, 2, 3, 63, 64} {
		for _, cols := range []int{1, 2, 64, 65, 4095, 4096} {
			for name, m := range map[string][][]byte{
				"noughts": filled(rows, cols, func(i, k int) byte { return 0 }),
				"some":    some(r, rows, cols),
			} {
				ahead := copied(m)
				if !mat.May(m) {
					t.Errorf("%s: %d rows of %d may not be", name, rows, cols)
				}
				if !equal(m, ahead) {
					t.Errorf("%s: %d rows of %d are turned", name, rows, cols)
				}
			}
		}
	}
}

// P2.1: what has not that form may not be.
func TestMayNot(t *testing.T) {
	for name, m := range wrong() {
		if mat.May(m) {
			t.Errorf("%s may be", name)
		}
	}
	// Each row may be the one that is of another length.
	for i := range 64 {
		for _, by := range []int{-1, 1} {
			m := filled(64, 5, func(i, k int) byte { return 1 })
			m[i] = make([]byte, 5+by)
			if mat.May(m) {
				t.Errorf("row %d of %d, among those of 5, may be", i, 5+by)
			}
		}
	}
}

// P2.1: 1 where row and column are the same, 0 elsewhere, of each size.
func TestOne(t *testing.T) {
	for n := 1; n <= 64; n++ {
		if m, err := mat.One(n); err != api.OK || !equal(m, same(n)) {
			t.Errorf("One(%d) = %v, %d", n, m, err)
		}
	}
}

// P2.1: sizes that are not from 1 to 64.
func TestOneOfWrongSizes(t *testing.T) {
	for _, n := range []int{0, -1, 65, 256, 257, -64, math.MaxInt, math.MinInt, 1<<32 + 1} {
		if m, err := mat.One(n); m != nil || err != api.ErrArg {
			t.Errorf("One(%d) = %v, %d", n, m, err)
		}
	}
}

// P2.1: inverses of the sums of cols + i and k, of each size.
func TestCauchy(t *testing.T) {
	for rows := 1; rows <= 64; rows++ {
		for cols := 1; cols <= 64; cols++ {
			want := filled(rows, cols, func(i, k int) byte { return inverse(byte((cols + i) ^ k)) })
			if m, err := mat.Cauchy(rows, cols); err != api.OK || !equal(m, want) {
				t.Fatalf("Cauchy(%d, %d) = %v, %d, not %v", rows, cols, m, err, want)
			}
		}
	}
}

// P2.1: one of both that is not from 1 to 64.
func TestCauchyOfWrongSizes(t *testing.T) {
	bad := []int{0, -1, 65, 256, 257, -64, math.MaxInt, math.MinInt, 1<<32 + 1}
	for _, b := range bad {
		for _, other := range append([]int{1, 2, 63, 64}, bad...) {
			for _, c := range [][2]int{{b, other}, {other, b}} {
				if m, err := mat.Cauchy(c[0], c[1]); m != nil || err != api.ErrArg {
					t.Errorf("Cauchy(%d, %d) = %v, %d", c[0], c[1], m, err)
				}
			}
		}
	}
}

// The chapter's examples.
func TestExamples(t *testing.T) {
	if m, err := mat.Cauchy(1, 2); err != api.OK || !equal(m, [][]byte{{142, 244}}) {
		t.Errorf("Cauchy(1, 2) = %v, %d", m, err)
	}
	if m, err := mat.Inv([][]byte{{1, 1}, {1, 1}}); m != nil || err != api.ErrState {
		t.Errorf("Inv of 1 1 and 1 1 = %v, %d", m, err)
	}
}

// P2.2: each number is the sum of products of a row and a column.
func TestMul(t *testing.T) {
	r := mixed(3)
	sizes := []int{1, 2, 3, 5, 17, 63, 64}
	for _, rows := range sizes {
		for _, mid := range sizes {
			for _, cols := range append([]int{65, 228}, sizes...) {
				checkMul(t, some(r, rows, mid), some(r, mid, cols))
			}
		}
	}
	for range 500 {
		rows, mid, cols := 1+r.IntN(6), 1+r.IntN(6), 1+r.IntN(9)
		checkMul(t, some(r, rows, mid), some(r, mid, cols))
	}
}

func checkMul(t *testing.T, a, b [][]byte) {
	t.Helper()
	m, err := mat.Mul(a, b)
	if err != api.OK || !equal(m, multiplied(a, b)) {
		t.Fatalf("%d rows of %d, and of %d: %v, %d", len(a), len(b), len(b[0]), m, err)
	}
}

// P2.2: each number times each, as matrices of one number.
func TestMulOfOneNumber(t *testing.T) {
	for a := range 256 {
		for b := range 256 {
			checkMul(t, [][]byte{{byte(a)}}, [][]byte{{byte(b)}})
		}
	}
}

// P2.2: the greatest sizes, and the least ones beside them.
func TestMulAtTheEdges(t *testing.T) {
	r := mixed(4)
	for _, rows := range []int{1, 64} {
		for _, mid := range []int{1, 64} {
			for _, cols := range []int{1, 4096} {
				checkMul(t, some(r, rows, mid), some(r, mid, cols))
			}
		}
	}
	nothing := filled(64, 64, func(i, k int) byte { return 0 })
	checkMul(t, nothing, some(r, 64, 4096))
	checkMul(t, some(r, 64, 64), filled(64, 4096, func(i, k int) byte { return 0 }))
}

// P2.2: One changes nothing, on either side.
func TestMulWithOne(t *testing.T) {
	r := mixed(5)
	for n := 1; n <= 64; n++ {
		a := some(r, n, n)
		one, _ := mat.One(n)
		if m, err := mat.Mul(a, one); err != api.OK || !equal(m, a) {
			t.Errorf("times One(%d): %v, %d", n, m, err)
		}
		if m, err := mat.Mul(one, a); err != api.OK || !equal(m, a) {
			t.Errorf("One(%d) times: %v, %d", n, m, err)
		}
	}
}

// P2.2: one of both that may not be, or sizes that do not fit.
func TestMulOfWrongOnes(t *testing.T) {
	for name, w := range wrong() {
		for _, n := range []int{1, 2, 3, 64} {
			for _, b := range [][][]byte{same(n), filled(n, 5, func(i, k int) byte { return 1 }), w} {
				checkNoMul(t, name, w, b)
				checkNoMul(t, name, b, w)
			}
		}
		// That the sizes would fit helps nothing.
		if len(w) > 0 {
			checkNoMul(t, name, filled(1, len(w), func(i, k int) byte { return 1 }), w)
			if len(w[0]) > 0 {
				checkNoMul(t, name, w, filled(len(w[0]), 1, func(i, k int) byte { return 1 }))
			}
		}
	}
	r := mixed(6)
	for _, c := range [][4]int{{1, 1, 2, 1}, {1, 2, 1, 1}, {2, 3, 2, 3}, {3, 2, 3, 2}, {64, 63, 64, 64}, {64, 64, 63, 64}, {1, 65, 64, 1}, {1, 4096, 1, 4096}, {64, 4096, 64, 4096}} {
		checkNoMul(t, "sizes", some(r, c[0], c[1]), some(r, c[2], c[3]))
	}
	if m, err := mat.Mul(some(r, 2, 3), some(r, 3, 2)); err != api.OK || m == nil {
		t.Errorf("sizes that fit: %v, %d", m, err)
	}
}

func checkNoMul(t *testing.T, name string, a, b [][]byte) {
	t.Helper()
	if m, err := mat.Mul(a, b); m != nil || err != api.ErrArg {
		t.Errorf("%s: %d rows, times %d rows: %v, %d", name, len(a), len(b), m, err)
	}
}

// checkInv tells whether Inv's answer gives One, on both sides.
func checkInv(t *testing.T, m [][]byte) {
	t.Helper()
	v, err := mat.Inv(m)
	if err != api.OK || !mat.May(v) || len(v) != len(m) || len(v[0]) != len(m) {
		t.Fatalf("Inv of %v = %v, %d", m, v, err)
	}
	if !equal(multiplied(v, m), same(len(m))) || !equal(multiplied(m, v), same(len(m))) {
		t.Fatalf("Inv of %v = %v, whose products with it are not One", m, v)
	}
}

func checkNoInv(t *testing.T, m [][]byte, want api.Errno) {
	t.Helper()
	if v, err := mat.Inv(m); v != nil || err != want {
		t.Fatalf("Inv of %d rows, %v = %v, %d, not %d", len(m), m, v, err, want)
	}
}

// check holds Inv against a determinant that was worked out another way.
func check(t *testing.T, m [][]byte, determinant byte) {
	t.Helper()
	if determinant == 0 {
		checkNoInv(t, m, api.ErrState)
	} else {
		checkInv(t, m)
	}
}

// P2.3: of one number the inverse is the number's.
func TestInvOfOneNumber(t *testing.T) {
	for a := range 256 {
		check(t, [][]byte{{byte(a)}}, byte(a))
	}
}

// P2.3: two rows have an inverse where their determinant is not 0.
func TestInvOfTwoRows(t *testing.T) {
	numbers := []byte{0, 1, 2, 3, 4, 29, 142, 255}
	for _, a := range numbers {
		for _, b := range numbers {
			for _, c := range numbers {
				for _, d := range numbers {
					check(t, [][]byte{{a, b}, {c, d}}, products[a][d]^products[b][c])
				}
			}
		}
	}
}

// determinantOfThree is that of three rows, by the minors of the first one.
func determinantOfThree(m [][]byte) byte {
	minor := func(k, l int) byte { return products[m[1][k]][m[2][l]] ^ products[m[1][l]][m[2][k]] }
	return products[m[0][0]][minor(1, 2)] ^ products[m[0][1]][minor(0, 2)] ^ products[m[0][2]][minor(0, 1)]
}

// P2.3: each three rows of 0, 1 and 2.
func TestInvOfThreeRows(t *testing.T) {
	for n := range 19683 { // 3^9
		rest := n
		m := filled(3, 3, func(i, k int) byte {
			number := byte(rest % 3)
			rest /= 3
			return number
		})
		check(t, m, determinantOfThree(m))
	}
}

// regular is a matrix that has an inverse: a product of two that have noughts
// on one side and no nought between, with its rows in another order.
func regular(r *rand.Rand, n int) [][]byte {
	half := func(low bool) [][]byte {
		return filled(n, n, func(i, k int) byte {
			switch {
			case i == k:
				return byte(1 + r.IntN(255))
			case i > k == low:
				return byte(r.Uint32())
			}
			return 0
		})
	}
	m := multiplied(half(true), half(false))
	r.Shuffle(n, func(i, k int) { m[i], m[k] = m[k], m[i] })
	return m
}

// P2.3: matrices of each size that have an inverse.
func TestInvOfEachSize(t *testing.T) {
	r := mixed(7)
	for n := 1; n <= 64; n++ {
		checkInv(t, same(n))
		for range 5 {
			checkInv(t, regular(r, n))
		}
	}
}

// P2.3: the inverse of an inverse is what there was.
func TestInvOfAnInverse(t *testing.T) {
	r := mixed(8)
	for n := 1; n <= 64; n++ {
		m := regular(r, n)
		v, _ := mat.Inv(m)
		if again, err := mat.Inv(v); err != api.OK || !equal(again, m) {
			t.Errorf("%d rows: %v, %d", n, again, err)
		}
	}
}

// P2.3: a nought ahead, or where one would divide, is no hindrance.
func TestInvWithNothingAhead(t *testing.T) {
	checkInv(t, [][]byte{{0, 1}, {1, 0}})
	checkInv(t, [][]byte{{0, 7}, {9, 5}})
	checkInv(t, [][]byte{{0, 0, 3}, {0, 5, 1}, {2, 1, 1}})
	checkInv(t, [][]byte{{1, 1, 0}, {1, 1, 1}, {0, 1, 1}}) // the second nought comes on the way
	r := mixed(9)
	for n := 2; n <= 64; n++ {
		for shift := range n { // rows of One, times a number, turned round
			checkInv(t, filled(n, n, func(i, k int) byte {
				if (i+shift)%n == k {
					return byte(1 + (i+k)%255)
				}
				return 0
			}))
		}
		m := regular(r, n)
		clearFirst(m)
		if m[0][0] != 0 {
			t.Fatalf("the first number of %d rows is %d", n, m[0][0])
		}
		checkInv(t, m)
	}
}

// clearFirst makes the first number 0, and leaves whether there is an inverse:
// the first row is turned by another one, or, where that can't be, goes behind.
func clearFirst(m [][]byte) {
	for _, other := range m[1:] {
		if other[0] != 0 {
			by := products[m[0][0]][inverse(other[0])]
			for k := range m[0] {
				m[0][k] ^= products[by][other[k]]
			}
			return
		}
	}
	last := len(m) - 1
	m[0], m[last] = m[last], m[0]
}

// P2.3: where one row is made of others there is no inverse.
func TestInvWhereThereIsNone(t *testing.T) {
	r := mixed(10)
	for n := 1; n <= 64; n++ {
		checkNoInv(t, filled(n, n, func(i, k int) byte { return 0 }), api.ErrState)
		if n == 1 {
			continue
		}
		checkNoInv(t, filled(n, n, func(i, k int) byte { return 1 }), api.ErrState)
		for _, at := range []int{0, n / 2, n - 1} {
			made := regular(r, n)
			clear(made[at])
			checkNoInv(t, made, api.ErrState)
			checkNoInv(t, mirrored(made), api.ErrState)
			for i := range made {
				by := byte(r.Uint32())
				for k := range n {
					if i != at {
						made[at][k] ^= products[by][made[i][k]]
					}
				}
			}
			checkNoInv(t, made, api.ErrState)
			checkNoInv(t, mirrored(made), api.ErrState)
			twice := regular(r, n)
			copy(twice[at], twice[(at+1)%n])
			checkNoInv(t, twice, api.ErrState)
			checkNoInv(t, mirrored(twice), api.ErrState)
		}
	}
}

// mirrored has m's rows as columns.
func mirrored(m [][]byte) [][]byte {
	return filled(len(m[0]), len(m), func(i, k int) byte { return m[k][i] })
}

// P2.3: a matrix that may not be, or has not as many columns as rows: also
// where there would be no inverse, ErrArg comes first.
func TestInvOfWrongOnes(t *testing.T) {
	for _, w := range wrong() {
		checkNoInv(t, w, api.ErrArg)
	}
	for _, c := range [][2]int{{1, 2}, {2, 1}, {3, 2}, {2, 3}, {64, 63}, {63, 64}, {64, 65}, {1, 4096}, {64, 4096}, {64, 1}} {
		checkNoInv(t, filled(c[0], c[1], func(i, k int) byte { return 0 }), api.ErrArg)
		checkNoInv(t, filled(c[0], c[1], func(i, k int) byte { return byte(1 + i*7 + k) }), api.ErrArg)
	}
}

// together are One's rows of k columns, and so many of Cauchy's behind them.
func together(t *testing.T, k, more int) [][]byte {
	t.Helper()
	one, err := mat.One(k)
	if err != api.OK {
		t.Fatalf("One(%d): %d", k, err)
	}
	behind, err := mat.Cauchy(more, k)
	if err != api.OK {
		t.Fatalf("Cauchy(%d, %d): %d", more, k, err)
	}
	return append(one, behind...)
}

// P2.4: each choice of k of up to 6 and 6 rows has an inverse.
func TestEachChoiceOfFewRowsHasAnInverse(t *testing.T) {
	for k := 1; k <= 6; k++ {
		for more := 1; more <= 6; more++ {
			all := together(t, k, more)
			for set := range 1 << len(all) {
				var picked [][]byte
				for i := range all {
					if set>>i&1 == 1 {
						picked = append(picked, all[i])
					}
				}
				if len(picked) == k {
					checkInv(t, picked)
				}
			}
		}
	}
}

// P2.4: choices of many rows, in any order, up to 64 and 64.
func TestChoicesOfManyRowsHaveAnInverse(t *testing.T) {
	r := mixed(11)
	for _, c := range [][2]int{{1, 64}, {64, 1}, {16, 8}, {32, 32}, {48, 16}, {16, 48}, {63, 64}, {64, 63}, {64, 64}} {
		all := together(t, c[0], c[1])
		for range 15 {
			picked := make([][]byte, c[0])
			for i, at := range r.Perm(len(all))[:c[0]] {
				picked[i] = all[at]
			}
			checkInv(t, picked)
		}
		checkInv(t, all[len(all)-c[0]:]) // as many of Cauchy's as there are
	}
}

// P2.4: of one column, and of each single row of 64 that is lost.
func TestEachSingleLossIsBorne(t *testing.T) {
	all := together(t, 64, 1)
	for lost := range all {
		checkInv(t, slices.Delete(slices.Clone(all), lost, lost+1))
	}
	for _, row := range together(t, 1, 64) {
		checkInv(t, [][]byte{row})
	}
}

// R3: what is handed in stays as it was.
func TestArgumentsStay(t *testing.T) {
	r := mixed(12)
	for n := 1; n <= 64; n++ {
		for name, m := range map[string][][]byte{"regular": regular(r, n), "noughts": filled(n, n, func(i, k int) byte { return 0 })} {
			b := some(r, n, 1+r.IntN(100))
			m0, b0 := copied(m), copied(b)
			first := &m[0][0]
			mat.May(m)
			mat.Inv(m)
			mat.Mul(m, b)
			mat.Mul(m, m)
			if !equal(m, m0) || !equal(b, b0) || first != &m[0][0] {
				t.Fatalf("%s of %d rows: an argument was turned", name, n)
			}
		}
	}
}

// R3: rows that are one and the same memory are read, and turned by nobody.
func TestRowsOfOneMemory(t *testing.T) {
	row := []byte{3, 5}
	twice := [][]byte{row, row}
	checkNoInv(t, twice, api.ErrState)
	checkMul(t, twice, twice)
	all := []byte{1, 2, 3, 4, 5}
	over := [][]byte{all[0:3], all[1:4], all[2:5]}
	checkMul(t, over, over)
	check(t, over, determinantOfThree(over))
	if !bytes.Equal(row, []byte{3, 5}) || !bytes.Equal(all, []byte{1, 2, 3, 4, 5}) {
		t.Errorf("turned: %v, %v", row, all)
	}
}

// R3: an answer is the caller's own: to overwrite it changes no argument and
// no later answer; to add to a row of it changes no other row.
func TestAnswersAreTheirOwn(t *testing.T) {
	r := mixed(13)
	m, b := regular(r, 8), some(r, 8, 20)
	calls := map[string]func() ([][]byte, api.Errno){
		"One":         func() ([][]byte, api.Errno) { return mat.One(8) },
		"Cauchy":      func() ([][]byte, api.Errno) { return mat.Cauchy(8, 5) },
		"Mul":         func() ([][]byte, api.Errno) { return mat.Mul(m, b) },
		"Mul by One":  func() ([][]byte, api.Errno) { return mat.Mul(same(8), b) },
		"Inv":         func() ([][]byte, api.Errno) { return mat.Inv(m) },
		"Inv of One":  func() ([][]byte, api.Errno) { return mat.Inv(same(8)) },
		"One of one":  func() ([][]byte, api.Errno) { return mat.One(1) },
		"Inv of one":  func() ([][]byte, api.Errno) { return mat.Inv([][]byte{{1}}) },
		"Mul of ones": func() ([][]byte, api.Errno) { return mat.Mul([][]byte{{1}}, [][]byte{{1}}) },
	}
	for name, call := range calls {
		m0, b0 := copied(m), copied(b)
		got, err := call()
		want := copied(got)
		if err != api.OK {
			t.Fatalf("%s: %d", name, err)
		}
		for i := range got {
			grown := append(got[i][:len(got[i]):cap(got[i])], 77, 77, 77)
			grown[len(grown)-1]++
		}
		if !equal(got, want) {
			t.Errorf("%s: to add to a row turned another one", name)
		}
		for i := range got {
			for k := range got[i] {
				got[i][k] ^= 255
			}
			for k := i + 1; k < len(got); k++ {
				if !bytes.Equal(got[k], want[k]) {
					t.Errorf("%s: row %d turned row %d", name, i, k)
				}
			}
		}
		if !equal(m, m0) || !equal(b, b0) {
			t.Errorf("%s: to overwrite the answer turned an argument", name)
		}
		if again, err := call(); err != api.OK || !equal(again, want) {
			t.Errorf("%s: later %v, %d, not %v", name, again, err, want)
		}
	}
}

// R3: to overwrite an argument later on changes no answer.
func TestAnswersStay(t *testing.T) {
	r := mixed(14)
	for n := 1; n <= 8; n++ {
		m, b := regular(r, n), some(r, n, 5)
		v, _ := mat.Inv(m)
		p, _ := mat.Mul(m, b)
		v0, p0 := copied(v), copied(p)
		for i := range n {
			clear(m[i])
			clear(b[i])
		}
		if !equal(v, v0) || !equal(p, p0) {
			t.Errorf("%d rows: an answer was turned", n)
		}
	}
}

// R5: calls at the same time, of the same arguments, answer as one by one.
func TestCallsAtTheSameTime(t *testing.T) {
	m := regular(mixed(15), 16)
	want, _ := mat.Inv(m)
	answers := make(chan bool)
	for range 4 {
		go func() {
			v, err := mat.Inv(m)
			p, _ := mat.Mul(m, v)
			answers <- err == api.OK && equal(v, want) && equal(p, same(16)) && mat.May(m)
		}()
	}
	for range 4 {
		if !<-answers {
			t.Error("an answer at the same time was another one")
		}
	}
}
