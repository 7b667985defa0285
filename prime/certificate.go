package prime

import (
	"specie/api"
	"specie/natmod"
	"specie/natural"
)

const (
	largest = 1000 // size of a certificate
	longest = 1024 // bits of its number
)

func Certify(n int) (api.Cert, api.Errno) {
	factors, e := factorsBelow(n)
	if e != api.OK {
		return api.Cert{}, e
	}
	c := api.Cert{N: number(n), Root: number(root(n, factors))}
	for _, p := range factors {
		part, e := Certify(p)
		if e != api.OK {
			return api.Cert{}, e
		}
		c.Parts = append(c.Parts, part)
	}
	return c, api.OK
}

func Verify(c api.Cert) bool {
	// the size first: a slice of parts may contain itself, and has no end then
	return Size(c) != 0 && right(c)
}

func Size(c api.Cert) int {
	n := count(c, largest)
	if n > largest {
		return 0
	}
	return n
}

// count goes through no more certificates than one beyond the limit, and returns limit + 1 then.
func count(c api.Cert, limit int) int {
	n := 1
	for _, part := range c.Parts {
		if n > limit {
			break
		}
		n += count(part, limit-n)
	}
	return n
}

// right takes a certificate of a permitted size. What takes little time comes first.
func right(c api.Cert) bool {
	if !inRange(c) || !complete(c) {
		return false
	}
	for _, part := range c.Parts {
		if !right(part) {
			return false
		}
	}
	return generates(c)
}

// inRange relies on it that a number that is not valid has no bits.
func inRange(c api.Cert) bool {
	n := natural.Bits(c.N)
	return 2 <= n && n <= longest && natural.Bits(c.Root) > 0 && natural.Compare(c.Root, c.N) < 0
}

// complete reports whether the numbers of the parts do not descend, and have the product N - 1. (The order of numbers that are not valid does not matter: their product fails.)
func complete(c api.Cert) bool {
	product, before := number(1), number(0)
	for _, part := range c.Parts {
		if natural.Compare(before, part.N) > 0 {
			return false
		}
		before = part.N
		var e api.Errno
		if product, e = natural.Mul(product, part.N); e != api.OK {
			return false
		}
	}
	return natural.Compare(product, less(c.N)) == 0
}

// generates reports whether the root has the order N - 1, which shows that N is a prime; it relies on the parts.
func generates(c api.Cert) bool {
	all := less(c.N)
	if !isOne(c, all) {
		return false
	}
	before := number(0)
	for _, part := range c.Parts {
		if natural.Compare(before, part.N) == 0 { // the same power again
			continue
		}
		before = part.N
		if q, _, _ := natural.Div(all, part.N); isOne(c, q) {
			return false
		}
	}
	return true
}

// isOne reports whether the root to an exponent is congruent to 1.
func isOne(c api.Cert, exponent api.Nat) bool {
	x, _ := natmod.Pow(c.Root, exponent, c.N)
	return natural.Compare(x, number(1)) == 0
}

// less returns n - 1, for an n that is not 0.
func less(n api.Nat) api.Nat {
	x, _ := natural.Sub(n, number(1))
	return x
}
