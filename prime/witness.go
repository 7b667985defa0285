package prime

import (
	"math/bits"

	"specie/api"
	"specie/natmod"
	"specie/natural"
	"specie/word"
)

// witnesses are the first primes: no composite number below 2^64 passes the test for all of them (Sorenson and Webster).
var witnesses = [...]int{2, 3, 5, 7, 11, 13, 17, 19, 23, 29, 31, 37}

// passes is the test of Miller and Rabin of an odd number n, for a base less than n.
func passes(n, a int) bool {
	twos := bits.TrailingZeros64(uint64(n - 1))
	x := power(a, (n-1)>>twos, n)
	if x == 1 {
		return true
	}
	// modulo a prime only 1 and -1 have the square 1, so that the last one before 1 is -1
	for range twos {
		if x == n-1 {
			return true
		}
		x = power(x, 2, n)
	}
	return false
}

// power is a residue a to an exponent, modulo any positive int; layer 1 has no moduli from 2^61 on.
func power(a, e, m int) int {
	if m < api.MaxWord {
		x, _ := word.Pow(a, e, m)
		return x
	}
	n, _ := natmod.Pow(number(a), number(e), number(m))
	x, _ := natural.Int(n)
	return x
}

// number is never called for a negative int.
func number(x int) api.Nat {
	n, _ := natural.Of(x)
	return n
}
