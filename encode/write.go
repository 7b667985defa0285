package encode

import (
	"strconv"

	"specie/api"
)

const symbols = "0123456789abcdef"

// Bytes of the parts of an encoding.
const (
	kindSize   = 1
	numberSize = 8 // an integer
	countSize  = 4 // how many bytes or items there are
)

// encodedSize returns the number of bytes of the encoding of a valid item, or, if they are more than MaxBytes, some number above it: the items of a list may be too many to go through them all.
func encodedSize(i api.Item) int {
	if i.Kind == api.ItemInt {
		return kindSize + numberSize
	}
	n := kindSize + countSize + len(i.B)
	for _, x := range i.L {
		if n > api.MaxBytes {
			break
		}
		n += encodedSize(x)
	}
	return n
}

// withItem appends the encoding of a valid item.
func withItem(b []byte, i api.Item) []byte {
	b = append(b, byte(i.Kind))
	switch i.Kind {
	case api.ItemInt:
		return withNumber(b, uint64(i.N), numberSize)
	case api.ItemBytes:
		return append(withNumber(b, uint64(len(i.B)), countSize), i.B...)
	}
	b = withNumber(b, uint64(len(i.L)), countSize)
	for _, x := range i.L {
		b = withItem(b, x)
	}
	return b
}

// withNumber appends so many of the lowest bytes of a number, the most significant one first.
func withNumber(b []byte, n uint64, size int) []byte {
	for shift := 8 * (size - 1); shift >= 0; shift -= 8 {
		b = append(b, byte(n>>shift))
	}
	return b
}

// withText appends the string of a valid item.
func withText(s []byte, i api.Item) []byte {
	switch i.Kind {
	case api.ItemInt:
		return strconv.AppendInt(s, int64(i.N), 10)
	case api.ItemBytes:
		s = append(s, 'x')
		for _, x := range i.B {
			s = append(s, symbols[x>>4], symbols[x&15])
		}
		return s
	}
	s = append(s, '(')
	for at, x := range i.L {
		if at > 0 {
			s = append(s, ' ')
		}
		s = withText(s, x)
	}
	return append(s, ')')
}
