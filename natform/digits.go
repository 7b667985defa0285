package natform

import (
	"slices"

	"specie/api"
	"specie/natural"
)

// group is the number of digits that are taken at once, so that few long numbers are computed: 256^7 is an int.
const group = 7

const symbols = "0123456789abcdef"

// none is the value of what is no digit; it is not less than any base of a string.
const none = byte(len(symbols))

// digit is the value of a character.
func digit(c byte) byte {
	switch {
	case '0' <= c && c <= '9':
		return c - '0'
	case 'a' <= c && c <= 'f':
		return c - 'a' + 10
	}
	return none
}

// digits returns the values of the digits of a valid number, the highest one first, without leading zeros: 0 has none.
func digits(n api.Nat, base int) []byte {
	scale, _ := natural.Of(power(base, group))
	var d []byte
	for len(n.W) > 0 {
		var rest api.Nat
		n, rest, _ = natural.Div(n, scale)
		x, _ := natural.Int(rest)
		for range group {
			d = append(d, byte(x%base))
			x /= base
		}
	}
	// the highest group is filled up with zeros
	for len(d) > 0 && d[len(d)-1] == 0 {
		d = d[:len(d)-1]
	}
	slices.Reverse(d)
	return d
}

// number returns the number with these values of digits, the highest one first; leading zeros do not matter.
func number(d []byte, base int) (api.Nat, api.Errno) {
	var n api.Nat
	for part := range slices.Chunk(d, group) {
		x := 0
		for _, y := range part {
			x = x*base + int(y)
		}
		var e api.Errno
		// no number is less than that of its first digits: if this is too big, so is the whole one
		if n, e = extended(n, power(base, len(part)), x); e != api.OK {
			return api.Nat{}, e
		}
	}
	return n, api.OK
}

// extended returns n scale + x.
func extended(n api.Nat, scale, x int) (api.Nat, api.Errno) {
	s, _ := natural.Of(scale)
	y, _ := natural.Of(x)
	product, e := natural.Mul(n, s)
	if e != api.OK {
		return api.Nat{}, e
	}
	return natural.Add(product, y)
}

func power(base, n int) int {
	x := 1
	for range n {
		x *= base
	}
	return x
}
