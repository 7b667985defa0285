package natmod

import (
	"specie/api"
	"specie/natural"
)

// longest is the number of bits of the greatest modulus.
const longest = 1024

// modulus relies on it that a number that is not valid has no bits.
func modulus(m api.Nat) bool {
	n := natural.Bits(m)
	return 1 <= n && n <= longest
}

func residue(a, m api.Nat) bool { return natural.Compare(a, m) < 0 }

// check chooses the error for two residues and a modulus; who has one residue passes 0, which is one of every modulus.
func check(a, b, m api.Nat) api.Errno {
	switch {
	case !natural.Valid(a) || !natural.Valid(b) || !modulus(m):
		return api.ErrArg
	case !residue(a, m) || !residue(b, m):
		return api.ErrRange
	}
	return api.OK
}

func zero(a api.Nat) bool { return natural.Bits(a) == 0 }

func one() api.Nat { return api.Nat{W: []uint32{1}} }

// The functions of natural are called for numbers for which they do not fail: a sum or product of two numbers of 1,024 bits is never too big.

func remainder(x, m api.Nat) api.Nat {
	_, r, _ := natural.Div(x, m)
	return r
}

func sum(a, b, m api.Nat) api.Nat {
	x, _ := natural.Add(a, b)
	return remainder(x, m)
}

// difference adds what is missing to m, so that nothing is negative.
func difference(a, b, m api.Nat) api.Nat {
	x, _ := natural.Sub(m, b)
	return sum(a, x, m)
}

func product(a, b, m api.Nat) api.Nat {
	x, _ := natural.Mul(a, b)
	return remainder(x, m)
}

// euclid finds with the greatest common divisor d also a residue x for which a x is d modulo m: the inverse, where d is 1.
func euclid(a, m api.Nat) (d, x api.Nat) {
	// at each step a x is d, and a y is r, modulo m, where the sign of one of x and y is minus, and they take turns; neither is ever beyond m, so nothing is too big
	d, r := m, a
	x, y := api.Nat{}, one()
	negative := true // of x; that of y is the other one
	for !zero(r) {
		q, rest, _ := natural.Div(d, r)
		change, _ := natural.Mul(q, y)
		next, _ := natural.Add(x, change) // x - q y, as they have different signs
		d, r = r, rest
		x, y = y, next
		negative = !negative
	}
	if negative {
		x = difference(api.Nat{}, x, m)
	}
	return d, x
}
