package natural

import (
	"cmp"
	"math"
	"math/bits"

	"specie/api"
)

// wordBits is the number of bits of a word.
const wordBits = 32

// word is 0 outside the list, so that numbers of different lengths need no cases.
func word(w []uint32, i int) uint32 {
	if i < 0 || i >= len(w) {
		return 0
	}
	return w[i]
}

// number leaves out the zero words at the end, which no valid number has; it keeps the list, which must be new.
func number(w []uint32) api.Nat {
	n := len(w)
	for n > 0 && w[n-1] == 0 {
		n--
	}
	if n == 0 {
		return api.Nat{}
	}
	return api.Nat{W: w[:n]}
}

func limited(w []uint32) (api.Nat, api.Errno) {
	n := number(w)
	if len(n.W) > api.MaxWords {
		return api.Nat{}, api.ErrBig
	}
	return n, api.OK
}

// compare takes the words of valid numbers: the one with more words is the greater one.
func compare(a, b []uint32) int {
	if c := cmp.Compare(len(a), len(b)); c != 0 {
		return c
	}
	for i := len(a) - 1; i >= 0; i-- {
		if c := cmp.Compare(a[i], b[i]); c != 0 {
			return c
		}
	}
	return 0
}

func sum(a, b []uint32) []uint32 {
	w := make([]uint32, max(len(a), len(b))+1)
	var carry uint32
	for i := range w {
		w[i], carry = bits.Add32(word(a, i), word(b, i), carry)
	}
	return w
}

// difference expects that a is not less than b.
func difference(a, b []uint32) []uint32 {
	w := make([]uint32, len(a))
	var borrow uint32
	for i := range w {
		w[i], borrow = bits.Sub32(a[i], word(b, i), borrow)
	}
	return w
}

func product(a, b []uint32) []uint32 {
	w := make([]uint32, len(a)+len(b))
	for i, x := range a {
		var carry uint32
		for j, y := range b {
			high, low := multiply(x, y, carry)
			// high stays a word, too: x y and two more words are less than 2^64
			low, over := bits.Add32(low, w[i+j], 0)
			w[i+j], carry = low, high+over
		}
		w[i+len(b)] = carry
	}
	return w
}

// multiply returns x y + carry, which is less than 2^64.
func multiply(x, y, carry uint32) (high, low uint32) {
	high, low = bits.Mul32(x, y)
	low, over := bits.Add32(low, carry, 0)
	return high + over, low
}

// shifted returns size words of a 2^n, rounded down, the lowest ones first; n may be negative.
func shifted(a []uint32, n, size int) []uint32 {
	w := make([]uint32, size)
	for i := range w {
		from := i*wordBits - n
		// / and % would round up where from is negative
		first, offset := from>>5, from&(wordBits-1)
		w[i] = word(a, first)>>offset | word(a, first+1)<<(wordBits-offset)
	}
	return w
}

// divide is Knuth's algorithm D, without the test of a second word of b.
func divide(a, b []uint32) (quotient, rest []uint32) {
	n := len(b)
	// with the highest bit of b set, the digits of the quotient are estimated well
	s := bits.LeadingZeros32(b[n-1])
	v := shifted(b, s, n)
	u := shifted(a, s, max(len(a), n)+1)
	quotient = make([]uint32, len(u)-n)
	for j := len(quotient) - 1; j >= 0; j-- {
		quotient[j] = reduce(u[j:j+n+1], v)
	}
	return quotient, shifted(u, -s, n)
}

// reduce leaves in u, which is less than v 2^32, the remainder of its division by v, and returns the quotient.
func reduce(u, v []uint32) uint32 {
	q := estimate(u, v)
	// the estimate is at most 2 too great (Knuth), so there are at most two rounds
	for borrow := subtract(u, v, q); borrow != 0; q-- {
		borrow -= restore(u, v)
	}
	return q
}

// estimate divides the two highest words of u by the highest one of v.
func estimate(u, v []uint32) uint32 {
	n := len(v)
	if u[n] >= v[n-1] { // the quotient would not fit, and Div32 would panic
		return math.MaxUint32
	}
	q, _ := bits.Div32(u[n], u[n-1], v[n-1])
	return q
}

// subtract takes v q from u, and returns what is borrowed from the word above u.
func subtract(u, v []uint32, q uint32) uint32 {
	var carry, low, borrow uint32
	for i, x := range v {
		carry, low = multiply(x, q, carry)
		u[i], borrow = bits.Sub32(u[i], low, borrow)
	}
	u[len(v)], borrow = bits.Sub32(u[len(v)], carry, borrow)
	return borrow
}

// restore adds v to u, and returns what is carried to the word above u.
func restore(u, v []uint32) uint32 {
	var carry uint32
	for i := range u {
		u[i], carry = bits.Add32(u[i], word(v, i), carry)
	}
	return carry
}
