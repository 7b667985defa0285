package digest

import (
	"math/bits"

	"specie/api"
)

const blockSize = 64 // bytes

// start and constants are given by the definition of SHA-256.
var start = [8]uint32{0x6a09e667, 0xbb67ae85, 0x3c6ef372, 0xa54ff53a, 0x510e527f, 0x9b05688c, 0x1f83d9ab, 0x5be0cd19}

var constants = [64]uint32{
	0x428a2f98, 0x71374491, 0xb5c0fbcf, 0xe9b5dba5, 0x3956c25b, 0x59f111f1, 0x923f82a4, 0xab1c5ed5,
	0xd807aa98, 0x12835b01, 0x243185be, 0x550c7dc3, 0x72be5d74, 0x80deb1fe, 0x9bdc06a7, 0xc19bf174,
	0xe49b69c1, 0xefbe4786, 0x0fc19dc6, 0x240ca1cc, 0x2de92c6f, 0x4a7484aa, 0x5cb0a9dc, 0x76f988da,
	0x983e5152, 0xa831c66d, 0xb00327c8, 0xbf597fc7, 0xc6e00bf3, 0xd5a79147, 0x06ca6351, 0x14292967,
	0x27b70a85, 0x2e1b2138, 0x4d2c6dfc, 0x53380d13, 0x650a7354, 0x766a0abb, 0x81c2c92e, 0x92722c85,
	0xa2bfe8a1, 0xa81a664b, 0xc24b8b70, 0xc76c51a3, 0xd192e819, 0xd6990624, 0xf40e3585, 0x106aa070,
	0x19a4c116, 0x1e376c08, 0x2748774c, 0x34b0bcb5, 0x391c0cb3, 0x4ed8aa4a, 0x5b9cca4f, 0x682e6ff3,
	0x748f82ee, 0x78a5636f, 0x84c87814, 0x8cc70208, 0x90befffa, 0xa4506ceb, 0xbef9a3f7, 0xc67178f2,
}

// padded returns the last blocks of the padded form, from the bytes behind the whole blocks and the number of all bytes.
func padded(rest []byte, n int) []byte {
	p := append(make([]byte, 0, 2*blockSize), rest...)
	p = append(p, 128)
	for len(p)%blockSize != blockSize-8 {
		p = append(p, 0)
	}
	return withNumber(p, 8*n)
}

// withNumber returns the bytes, followed by a number in 8 bytes.
func withNumber(b []byte, n int) []byte {
	for shift := 56; shift >= 0; shift -= 8 {
		b = append(b, byte(n>>shift))
	}
	return b
}

// absorbed returns the eight words that follow by a block.
func absorbed(s [8]uint32, block []byte) [8]uint32 {
	a, b, c, d, e, f, g, h := s[0], s[1], s[2], s[3], s[4], s[5], s[6], s[7]
	for t, w := range schedule(block) {
		x := h + (right(e, 6) ^ right(e, 11) ^ right(e, 25)) + (e&f ^ ^e&g) + constants[t] + w
		y := (right(a, 2) ^ right(a, 13) ^ right(a, 22)) + (a&b ^ a&c ^ b&c)
		h, g, f, e, d, c, b, a = g, f, e, d+x, c, b, a, x+y
	}
	for i, x := range [8]uint32{a, b, c, d, e, f, g, h} {
		s[i] += x
	}
	return s
}

// schedule returns the words of a block, and those that follow from them.
func schedule(block []byte) [64]uint32 {
	var w [64]uint32
	for t := range 16 {
		w[t] = read(block[4*t:])
	}
	for t := 16; t < 64; t++ {
		x, y := w[t-15], w[t-2]
		s0 := right(x, 7) ^ right(x, 18) ^ x>>3
		s1 := right(y, 17) ^ right(y, 19) ^ y>>10
		w[t] = w[t-16] + s0 + w[t-7] + s1
	}
	return w
}

func right(x uint32, n int) uint32 { return bits.RotateLeft32(x, -n) }

// read returns the word that four bytes are, the highest first.
func read(b []byte) uint32 {
	return uint32(b[0])<<24 | uint32(b[1])<<16 | uint32(b[2])<<8 | uint32(b[3])
}

func written(s [8]uint32) api.Hash {
	var h api.Hash
	for i := range h {
		h[i] = byte(s[i/4] >> (24 - i%4*8))
	}
	return h
}
