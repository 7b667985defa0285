// Package word is layer 1: arithmetic modulo numbers below 2^61 (see shared/doc/01-word.md).
package word

import (
	"math"
	"math/bits"

	"specie/api"
)

func Add(a, b, m int) (int, api.Errno) {
	if e := check(a, b, m); e != api.OK {
		return 0, e
	}
	// no overflow: both residues are less than 2^61
	return (a + b) % m, api.OK
}

func Sub(a, b, m int) (int, api.Errno) {
	if e := check(a, b, m); e != api.OK {
		return 0, e
	}
	return least(a-b, m), api.OK
}

func Mul(a, b, m int) (int, api.Errno) {
	if e := check(a, b, m); e != api.OK {
		return 0, e
	}
	return product(a, b, m), api.OK
}

func Pow(a, e, m int) (int, api.Errno) {
	switch f := check(a, 0, m); {
	case f != api.OK:
		return 0, f
	case e < 0:
		return 0, api.ErrRange
	}
	x := 1 % m // modulo 1 the power is 0, even for e = 0
	for ; e > 0; e >>= 1 {
		if e&1 == 1 {
			x = product(x, a, m)
		}
		a = product(a, a, m)
	}
	return x, api.OK
}

func Inverse(a, m int) (int, api.Errno) {
	if e := check(a, 0, m); e != api.OK {
		return 0, e
	}
	d, x := euclid(a, m)
	if d != 1 {
		return 0, api.ErrZero
	}
	return x, api.OK
}

func Reduce(a, m int) (int, api.Errno) {
	if e := check(0, 0, m); e != api.OK {
		return 0, e
	}
	return least(a%m, m), api.OK
}

func Gcd(a, b int) int {
	x, y := magnitude(a), magnitude(b)
	for y != 0 {
		x, y = y, x%y
	}
	if x > math.MaxInt { // 2^63, which is no int
		return 0
	}
	return int(x)
}

func Solve(a, b, m int) (x, step int, e api.Errno) {
	if e = check(a, b, m); e != api.OK {
		return 0, 0, e
	}
	d, c := euclid(a, m)
	if b%d != 0 {
		return 0, 0, api.ErrNone
	}
	// a c is d modulo m, so c is the inverse of a / d modulo m / d
	step = m / d
	return product(c%step, b/d, step), step, api.OK
}

func Jacobi(a, n int) (int, api.Errno) {
	if n%2 == 0 {
		return 0, api.ErrArg
	}
	if e := check(a, 0, n); e != api.OK {
		return 0, e
	}
	return jacobi(a, n), api.OK
}

// check chooses the error for a modulus and two residues; who has fewer residues passes 0, which is one of every modulus.
func check(a, b, m int) api.Errno {
	switch {
	case m < 1 || m >= api.MaxWord:
		return api.ErrArg
	case a < 0 || a >= m || b < 0 || b >= m:
		return api.ErrRange
	}
	return api.OK
}

// least takes an integer from -m + 1 to m - 1: a second division would be a waste.
func least(a, m int) int {
	if a < 0 {
		return a + m
	}
	return a
}

func product(a, b, m int) int {
	high, low := bits.Mul64(uint64(a), uint64(b))
	// Div64 does not panic: a b is less than m 2^64, so that high is less than m
	_, r := bits.Div64(high, low, uint64(m))
	return int(r)
}

// euclid finds with the greatest common divisor d also a residue x for which a x is d modulo m: the inverse, where d is 1.
func euclid(a, m int) (d, x int) {
	// at each step a x is d, and a y is r, modulo m; x and y are never beyond m, so nothing overflows
	d, r := m, a
	x, y := 0, 1
	for r != 0 {
		q := d / r
		d, r = r, d-q*r
		x, y = y, x-q*y
	}
	return d, least(x, m)
}

// jacobi finds the symbol by quadratic reciprocity, without the factors of n.
func jacobi(a, n int) int {
	symbol := 1
	for a != 0 {
		twos := bits.TrailingZeros64(uint64(a))
		a >>= twos
		if twos%2 == 1 && (n%8 == 3 || n%8 == 5) { // where the symbol of 2 is -1
			symbol = -symbol
		}
		if a%4 == 3 && n%4 == 3 {
			symbol = -symbol
		}
		a, n = n%a, a
	}
	if n != 1 { // the common divisor of both
		return 0
	}
	return symbol
}

// magnitude is unsigned, since that of the least int is 2^63.
func magnitude(a int) uint64 {
	if a < 0 {
		return -uint64(a)
	}
	return uint64(a)
}
