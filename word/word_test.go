package word_test

import (
	"math"
	"math/big"
	"slices"
	"testing"

	"specie/api"
	"specie/word"
)

const largest = api.MaxWord - 1 // the largest modulus, which is a prime

// moduli are small ones, composite and prime ones, and those whose products need more than one word.
var moduli = []int{1, 2, 3, 4, 10, 11, 15, 36, 1<<31 - 1, 1 << 32, 1<<32 + 1, 1<<32 + 15, 1 << 60, 3 * 5 * 7 * 11 * 13 * 17 * 19 * 23, largest - 2, largest - 1, largest}

// wild are ints that are tried as arguments of every kind.
var wild = []int{math.MinInt, math.MinInt + 1, -api.MaxWord, -11, -3, -2, -1, 0, 1, 2, 3, 7, 10, 11, largest - 1, largest, api.MaxWord, api.MaxWord + 1, math.MaxInt - 1, math.MaxInt}

// residues returns the ends, the middle, and some others of the residues of m; for a small m all of them.
func residues(m int) []int {
	var l []int
	if m <= 12 {
		for a := range m {
			l = append(l, a)
		}
		return l
	}
	for _, a := range []int{0, 1, 2, 3, 6, m / 3, m / 2, m/2 + 1, m - 6, m - 2, m - 1, 1 << 20, 1 << 40, 1<<59 + 12345, 123456789012345} {
		l = append(l, a%m)
	}
	slices.Sort(l)
	return slices.Compact(l)
}

func number(a int) *big.Int { return big.NewInt(int64(a)) }

// remainder is the residue of x, which may be negative.
func remainder(x *big.Int, m int) int { return int(new(big.Int).Mod(x, number(m)).Int64()) }

// must returns the result of a call that may not fail.
func must(t *testing.T) func(int, api.Errno) int {
	return func(x int, e api.Errno) int {
		t.Helper()
		if e != api.OK {
			t.Fatal("error", e)
		}
		return x
	}
}

// expected is the error for a modulus and numbers that should be residues.
func expected(m int, l ...int) api.Errno {
	if m <= 0 || m > largest {
		return api.ErrArg
	}
	for _, a := range l {
		if a < 0 || a > m-1 {
			return api.ErrRange
		}
	}
	return api.OK
}

// P1.1
func TestSumsDifferencesAndProducts(t *testing.T) {
	for _, m := range moduli {
		for _, a := range residues(m) {
			for _, b := range residues(m) {
				x, y := number(a), number(b)
				if got, e := word.Add(a, b, m); e != api.OK || got != remainder(new(big.Int).Add(x, y), m) {
					t.Error("Add", a, b, m, got, e)
				}
				if got, e := word.Sub(a, b, m); e != api.OK || got != remainder(new(big.Int).Sub(x, y), m) {
					t.Error("Sub", a, b, m, got, e)
				}
				if got, e := word.Mul(a, b, m); e != api.OK || got != remainder(new(big.Int).Mul(x, y), m) {
					t.Error("Mul", a, b, m, got, e)
				}
			}
		}
	}
	if got := must(t)(word.Mul(7, 8, 11)); got != 1 {
		t.Error("7 times 8 modulo 11", got)
	}
}

// P1.2
func TestPowers(t *testing.T) {
	exponents := []int{0, 1, 2, 3, 10, 63, 64, 1<<32 - 1, 1 << 61, largest, math.MaxInt - 1, math.MaxInt}
	for _, m := range moduli {
		for _, a := range residues(m) {
			for _, e := range exponents {
				want := int(new(big.Int).Exp(number(a), number(e), number(m)).Int64())
				if got, f := word.Pow(a, e, m); f != api.OK || got != want {
					t.Error("Pow", a, e, m, got, f, "not", want)
				}
			}
		}
	}
	for _, c := range [][4]int{{0, 0, 1, 0}, {0, 0, 5, 1}, {4, 0, 5, 1}, {0, 3, 5, 0}, {3, 5, 7, 5}} {
		if got := must(t)(word.Pow(c[0], c[1], c[2])); got != c[3] {
			t.Error("Pow", c, got)
		}
	}
}

// P1.2
func TestErrorsOfPowers(t *testing.T) {
	for _, m := range wild {
		for _, a := range wild {
			for _, e := range wild {
				want := expected(m, a)
				if want == api.OK && e < 0 {
					want = api.ErrRange
				}
				if got, f := word.Pow(a, e, m); f != want || f != api.OK && got != 0 {
					t.Error("Pow", a, e, m, got, f, "not", want)
				}
			}
		}
	}
}

// P1.3
func TestReduce(t *testing.T) {
	for _, m := range append(slices.Clone(wild), moduli...) {
		for _, a := range append(slices.Clone(wild), residues(largest)...) {
			want, f := 0, expected(m)
			if f == api.OK {
				want = remainder(number(a), m)
			}
			if got, e := word.Reduce(a, m); got != want || e != f {
				t.Error("Reduce", a, m, got, e, "not", want, f)
			}
		}
	}
}

// P1.3
func TestGcd(t *testing.T) {
	l := append(residues(largest), wild...)
	for a := range 31 {
		l = append(l, a, -a)
	}
	for _, a := range l {
		for _, b := range l {
			x, y := number(a), number(b)
			want := 0
			if d := new(big.Int).GCD(nil, nil, x.Abs(x), y.Abs(y)); d.IsInt64() {
				want = int(d.Int64())
			}
			if got := word.Gcd(a, b); got != want {
				t.Error("Gcd", a, b, got, "not", want)
			}
		}
	}
	for _, c := range [][3]int{{0, 0, 0}, {0, -6, 6}, {-12, 18, 6}, {math.MinInt, math.MinInt, 0}, {math.MinInt, 0, 0}, {0, math.MinInt, 0}, {math.MinInt, -1 << 62, 1 << 62}} {
		if got := word.Gcd(c[0], c[1]); got != c[2] {
			t.Error("Gcd", c, got)
		}
	}
}

// P1.4
func TestInverses(t *testing.T) {
	for _, m := range moduli {
		for _, a := range residues(m) {
			want, f := 0, api.OK
			if x := new(big.Int).ModInverse(number(a), number(m)); x != nil {
				want = int(x.Int64())
			} else if m > 1 {
				f = api.ErrZero
			}
			if got, e := word.Inverse(a, m); got != want || e != f {
				t.Error("Inverse", a, m, got, e, "not", want, f)
			}
		}
	}
	for _, c := range []struct {
		a, m, x int
		e       api.Errno
	}{{0, 1, 0, api.OK}, {7, 11, 8, api.OK}, {1, 2, 1, api.OK}, {0, 2, 0, api.ErrZero}, {6, 10, 0, api.ErrZero}, {largest - 1, largest, largest - 1, api.OK}} {
		if got, e := word.Inverse(c.a, c.m); got != c.x || e != c.e {
			t.Error("Inverse", c, got, e)
		}
	}
}

// solutions finds by trial the least x for which a x is b, and the step m / d.
func solutions(a, b, m int) (x, step int, e api.Errno) {
	count := 0
	for y := m - 1; y >= 0; y-- {
		if a*y%m == b {
			x = y
			count++
		}
	}
	if count == 0 {
		return 0, 0, api.ErrNone
	}
	return x, m / count, api.OK
}

// P1.5
func TestSolveBySearch(t *testing.T) {
	for m := 1; m <= 36; m++ {
		for a := range m {
			for b := range m {
				x, step, f := solutions(a, b, m)
				if y, s, e := word.Solve(a, b, m); y != x || s != step || e != f {
					t.Error("Solve", a, b, m, y, s, e, "not", x, step, f)
				}
			}
		}
	}
}

// P1.5
func TestSolveForLargeModuli(t *testing.T) {
	for _, m := range moduli {
		for _, a := range residues(m) {
			d := int(new(big.Int).GCD(nil, nil, number(a), number(m)).Int64())
			for _, b := range residues(m) {
				x, step, e := word.Solve(a, b, m)
				if b%d != 0 {
					if x != 0 || step != 0 || e != api.ErrNone {
						t.Error("Solve", a, b, m, x, step, e)
					}
					continue
				}
				image := remainder(new(big.Int).Mul(number(a), number(x)), m)
				if e != api.OK || step != m/d || x < 0 || x >= step || image != b {
					t.Error("Solve", a, b, m, x, step, e)
				}
			}
		}
	}
	if x, step, e := word.Solve(6, 4, 10); x != 4 || step != 5 || e != api.OK {
		t.Error("6 x = 4 modulo 10", x, step, e)
	}
}

// symbol is the Jacobi symbol by its definition: over the prime factors of n, by a search for squares.
func symbol(a, n int) int {
	s := 1
	for p := 3; n > 1; p++ {
		for ; n%p == 0; n /= p {
			square := -1
			for x := range p {
				if x*x%p == a%p {
					square = 1
				}
			}
			if a%p == 0 {
				square = 0
			}
			s *= square
		}
	}
	return s
}

// P1.6
func TestJacobi(t *testing.T) {
	for n := 1; n < 230; n += 2 {
		for a := range n {
			if got, e := word.Jacobi(a, n); e != api.OK || got != symbol(a, n) {
				t.Error("Jacobi", a, n, got, e)
			}
		}
	}
	for _, n := range moduli {
		if n%2 == 0 {
			continue
		}
		for _, a := range residues(n) {
			if got, e := word.Jacobi(a, n); e != api.OK || got != big.Jacobi(number(a), number(n)) {
				t.Error("Jacobi", a, n, got, e)
			}
		}
	}
	for _, c := range [][3]int{{0, 1, 1}, {0, 3, 0}, {0, 9, 0}, {2, 15, 1}, {2, 3, -1}, {5, 15, 0}} {
		if got := must(t)(word.Jacobi(c[0], c[1])); got != c[2] {
			t.Error("Jacobi", c, got)
		}
	}
}

// P1.6
func TestErrorsOfJacobi(t *testing.T) {
	for _, n := range append(slices.Clone(wild), 6, 9, 1<<60) {
		for _, a := range wild {
			want := expected(n, a)
			if n%2 == 0 {
				want = api.ErrArg
			}
			if got, e := word.Jacobi(a, n); e != want || e != api.OK && got != 0 {
				t.Error("Jacobi", a, n, got, e, "not", want)
			}
		}
	}
}

// P1, P1.1, P1.4, P1.5: no modulus comes before no residue, and with an error all results are zero.
func TestErrors(t *testing.T) {
	for _, m := range wild {
		for _, a := range wild {
			want := expected(m, a)
			if x, e := word.Inverse(a, m); e != want && (want != api.OK || e != api.ErrZero) || e != api.OK && x != 0 {
				t.Error("Inverse", a, m, x, e, "not", want)
			}
			for _, b := range wild {
				want := expected(m, a, b)
				for i, f := range []func(a, b, m int) (int, api.Errno){word.Add, word.Sub, word.Mul} {
					if x, e := f(a, b, m); e != want || e != api.OK && x != 0 {
						t.Error("Add, Sub, Mul", i, a, b, m, x, e, "not", want)
					}
				}
				if x, s, e := word.Solve(a, b, m); e != want && (want != api.OK || e != api.ErrNone) || e != api.OK && (x != 0 || s != 0) {
					t.Error("Solve", a, b, m, x, s, e, "not", want)
				}
			}
		}
	}
}

// P1.7
func TestRing(t *testing.T) {
	ok := must(t)
	for _, m := range moduli {
		add := func(a, b int) int { return ok(word.Add(a, b, m)) }
		mul := func(a, b int) int { return ok(word.Mul(a, b, m)) }
		for _, a := range residues(m) {
			if add(a, 0) != a || mul(a, 1%m) != a || add(a, ok(word.Sub(0, a, m))) != 0 {
				t.Error("neutral or inverse elements", a, m)
			}
			for _, b := range residues(m) {
				if add(a, b) != add(b, a) || mul(a, b) != mul(b, a) || add(ok(word.Sub(a, b, m)), b) != a {
					t.Error("commutative laws", a, b, m)
				}
				for _, c := range residues(m) {
					if add(add(a, b), c) != add(a, add(b, c)) || mul(mul(a, b), c) != mul(a, mul(b, c)) || mul(a, add(b, c)) != add(mul(a, b), mul(a, c)) {
						t.Error("associative and distributive laws", a, b, c, m)
					}
				}
			}
		}
	}
}

// P1.7
func TestLawsOfExponents(t *testing.T) {
	ok := must(t)
	exponents := []int{0, 1, 2, 7, 1 << 30, 1<<31 - 1}
	for _, m := range moduli {
		pow := func(a, e int) int { return ok(word.Pow(a, e, m)) }
		mul := func(a, b int) int { return ok(word.Mul(a, b, m)) }
		for _, a := range residues(m) {
			for _, e := range exponents {
				for _, f := range exponents {
					if pow(a, e+f) != mul(pow(a, e), pow(a, f)) || pow(pow(a, e), f) != pow(a, e*f) {
						t.Error("sums and products of exponents", a, e, f, m)
					}
				}
				for _, b := range residues(m) {
					if pow(mul(a, b), e) != mul(pow(a, e), pow(b, e)) {
						t.Error("powers of products", a, b, e, m)
					}
				}
			}
		}
	}
}

// P1.7
func TestInversesUndoProducts(t *testing.T) {
	ok := must(t)
	for _, m := range moduli {
		for _, a := range residues(m) {
			x, e := word.Inverse(a, m)
			if e != api.OK {
				continue
			}
			for _, b := range residues(m) {
				if ok(word.Mul(ok(word.Mul(b, a, m)), x, m)) != b {
					t.Error(a, x, b, m)
				}
			}
		}
	}
}

// P1.7
func TestLawsOfJacobi(t *testing.T) {
	ok := must(t)
	for _, n := range moduli {
		for _, a := range residues(n) {
			for _, b := range residues(n) {
				if n%2 == 1 && ok(word.Jacobi(ok(word.Mul(a, b, n)), n)) != ok(word.Jacobi(a, n))*ok(word.Jacobi(b, n)) {
					t.Error("symbol of a product", a, b, n)
				}
			}
		}
	}
	for _, p := range []int{3, 5, 7, 11, 97, 65537, 1<<31 - 1, largest} {
		for _, a := range residues(p) {
			if ok(word.Reduce(ok(word.Jacobi(a, p)), p)) != ok(word.Pow(a, (p-1)/2, p)) {
				t.Error("symbol and power", a, p)
			}
		}
	}
}
