package natform_test

import (
	"bytes"
	"encoding/hex"
	"math"
	"math/big"
	"math/rand/v2"
	"slices"
	"strconv"
	"strings"
	"testing"

	"specie/api"
	"specie/natform"
	"specie/natural"
)

const (
	full    = math.MaxUint32
	longest = 1000              // bytes of what is read, and of the bytes that are written
	top     = 32 * api.MaxWords // valid numbers are less than 2^top
)

// nat returns the number with some words.
func nat(w ...uint32) api.Nat { return api.Nat{W: w} }

// of returns the words of a value, even if they are too many.
func of(x *big.Int) api.Nat {
	var w []uint32
	for x = new(big.Int).Set(x); x.Sign() > 0; x.Rsh(x, 32) {
		w = append(w, uint32(new(big.Int).And(x, big.NewInt(full)).Uint64()))
	}
	return api.Nat{W: w}
}

// value is the value of the words, valid or not.
func value(n api.Nat) *big.Int {
	x := new(big.Int)
	for i := len(n.W) - 1; i >= 0; i-- {
		x.Lsh(x, 32).Or(x, big.NewInt(int64(n.W[i])))
	}
	return x
}

// power returns base^n + x.
func power(base, n, x int) *big.Int {
	y := new(big.Int).Exp(big.NewInt(int64(base)), big.NewInt(int64(n)), nil)
	return y.Add(y, big.NewInt(int64(x)))
}

// values returns small numbers, the powers of the three bases with their neighbors, numbers without a pattern (always the same ones), and the greatest number.
func values() []*big.Int {
	var l []*big.Int
	for x := range 300 {
		l = append(l, big.NewInt(int64(x)))
	}
	for _, base := range []int{2, 10, 16} {
		for n := 1; power(base, n, -1).BitLen() <= top; n++ {
			for x := -1; x <= 1; x++ {
				if y := power(base, n, x); y.BitLen() <= top {
					l = append(l, y)
				}
			}
		}
	}
	source := rand.New(rand.NewPCG(1, 4))
	for n := 1; n <= api.MaxWords; n++ {
		for range 4 {
			w := make([]uint32, n)
			for i := range w {
				w[i] = source.Uint32()
			}
			l = append(l, value(api.Nat{W: w}))
		}
	}
	return l
}

// invalid returns numbers that end with a zero word, or have too many words.
func invalid() []api.Nat {
	greatest := of(power(2, top, -1)).W
	return []api.Nat{
		nat(0), nat(0, 0), nat(1, 0), nat(0, 1, 0), nat(full, full, 0), {W: make([]uint32, api.MaxWords)}, {W: make([]uint32, api.MaxWords+1)},
		{W: append(slices.Clone(greatest), 0)}, {W: append(slices.Clone(greatest), 1)}, of(power(2, top, 0)), of(power(2, 3*top, -1)),
	}
}

// short cuts a name that would fill the screen.
func short(name string) string {
	if len(name) > 80 {
		return name[:60] + ".. (" + strconv.Itoa(len(name)) + " bytes)"
	}
	return name
}

// fails checks an error, with which the number is zero.
func fails(t *testing.T, name string, got api.Nat, e, want api.Errno) {
	t.Helper()
	if e != want || len(got.W) != 0 {
		t.Error(short(name), "is", value(got).Text(16), e, "not", want)
	}
}

// expect compares a number that was read with the value that it should have: ErrBig if that is not less than 2^top.
func expect(t *testing.T, name string, got api.Nat, e api.Errno, want *big.Int) {
	t.Helper()
	if want.BitLen() > top {
		fails(t, name, got, e, api.ErrBig)
		return
	}
	if e != api.OK || !natural.Valid(got) || value(got).Cmp(want) != 0 {
		t.Error(short(name), "is", value(got).Text(16), e, "not", want.Text(16))
	}
}

// readers are the two functions that read strings, with their bases.
func readers() map[int]func(string) (api.Nat, api.Errno) {
	return map[int]func(string) (api.Nat, api.Errno){10: natform.Parse, 16: natform.ParseHex}
}

// P4.1
func TestStringsOfNumbers(t *testing.T) {
	for _, x := range values() {
		n := of(x)
		if s := natform.Text(n); s != x.Text(10) {
			t.Error("Text is", s, "not", x)
		}
		if s := natform.Hex(n); s != x.Text(16) {
			t.Error("Hex is", s, "not", x.Text(16))
		}
	}
	n := nat(0x23456789, 1)
	if natform.Text(n) != "4886718345" || natform.Hex(n) != "123456789" {
		t.Error("the example", natform.Text(n), natform.Hex(n))
	}
	for _, n := range []api.Nat{{}, {W: []uint32{}}} {
		if natform.Text(n) != "0" || natform.Hex(n) != "0" {
			t.Error("0 is", natform.Text(n), natform.Hex(n))
		}
	}
	if s := natform.Hex(nat(0x76543210, 0xfedcba98)); s != "fedcba9876543210" {
		t.Error("all hexadecimal digits", s)
	}
}

// P4.1
func TestStringsOfNoNumbers(t *testing.T) {
	for i, n := range invalid() {
		if natform.Text(n) != "" || natform.Hex(n) != "" {
			t.Error(i, natform.Text(n), natform.Hex(n))
		}
	}
}

// P4.2, P4.3
func TestNumbersOfStrings(t *testing.T) {
	for base, parse := range readers() {
		for _, x := range values() {
			n, e := parse(x.Text(base))
			expect(t, x.Text(base), n, e, x)
		}
	}
	if n, e := natform.Parse("4886718345"); e != api.OK || !slices.Equal(n.W, []uint32{0x23456789, 1}) {
		t.Error("the example", n, e)
	}
	if n, e := natform.ParseHex("123456789"); e != api.OK || !slices.Equal(n.W, []uint32{0x23456789, 1}) {
		t.Error("the example", n, e)
	}
}

// P4.2, P4.3: the greatest number, and those that are greater.
func TestStringsOfBigNumbers(t *testing.T) {
	for base, parse := range readers() {
		for x := -3; x <= 3; x++ {
			y := power(2, top, x)
			n, e := parse(y.Text(base))
			expect(t, y.Text(base), n, e, y)
		}
		for length := 500; length <= longest; length++ {
			for _, s := range []string{"1" + strings.Repeat("0", length-1), strings.Repeat("9", length)} {
				y, _ := new(big.Int).SetString(s, base)
				n, e := parse(s)
				expect(t, s, n, e, y)
			}
		}
	}
}

// P4.2, P4.3: strings that are no number of any size.
func TestMalformedStrings(t *testing.T) {
	for base, parse := range readers() {
		for _, s := range []string{
			"", "00", "01", "007", "0000000", "00000001", "0f", strings.Repeat("0", longest), "0" + strings.Repeat("1", longest-1),
			"-", "-0", "-1", "+", "+1", "1-", " ", " 1", "1 ", "1\n", "\t1", "1 000", "1,000", "1_000", "1.", ".1", "1e-3", "0x", "0x1", "0X1", "1h", "0b1", "\x00", "1\x00", "\x001",
			"F", "A", "1F", "aB", "FF", "g", "1g", "G", "z", "é", "1é", "\xff", "1\x80", "１", "٣", "²",
		} {
			n, e := parse(s)
			fails(t, strconv.Quote(s), n, e, api.ErrForm)
		}
		digits := "0123456789abcdef"[:base]
		for c := range 256 {
			for _, s := range []string{string([]byte{byte(c)}), "1" + string([]byte{byte(c)}), string([]byte{'7', byte(c), '7'}), "12345678" + string([]byte{byte(c)}) + "1234567"} {
				n, e := parse(s)
				if strings.IndexByte(digits, byte(c)) < 0 {
					fails(t, strconv.Quote(s), n, e, api.ErrForm)
				} else if x, ok := new(big.Int).SetString(s, base); !ok {
					t.Error("not a number", s)
				} else {
					expect(t, s, n, e, x)
				}
			}
		}
	}
	for _, s := range []string{"a", "f", "1a", "a1", "123456789a", "deadbeef"} {
		n, e := natform.Parse(s)
		fails(t, s, n, e, api.ErrForm)
	}
}

// P4.2, P4.3: a string that is too long comes before one that is malformed, and that before a number that is too big.
func TestOrderOfErrorsOfStrings(t *testing.T) {
	for base, parse := range readers() {
		for _, c := range []string{"1", "9", "0", "-", "x", "é", "F", "\x00"} {
			for _, length := range []int{longest + 1, longest + 7, 2 * longest, 100 * longest} {
				s := strings.Repeat(c, length)
				n, e := parse(s)
				fails(t, "too long in base "+strconv.Itoa(base), n, e, api.ErrFull)
			}
		}
		for _, length := range []int{513, 620, longest - 1, longest} {
			for _, i := range []int{0, 1, 6, 7, 8, length / 2, length - 2, length - 1} {
				s := []byte(strings.Repeat("9", length))
				s[i] = 'x'
				n, e := parse(string(s))
				fails(t, string(s), n, e, api.ErrForm)
			}
			s := "0" + strings.Repeat("9", length-1)
			n, e := parse(s)
			fails(t, s, n, e, api.ErrForm)
		}
	}
}

// P4.4
func TestBytes(t *testing.T) {
	for _, x := range values() {
		n, least := of(x), (x.BitLen()+7)/8
		for _, size := range []int{0, 1, 6, 7, 8, least - 1, least, least + 1, least + 6, 255, 256, 257, longest - 1, longest} {
			b, e := natform.Bytes(n, size)
			switch {
			case size < 0:
				wrongBytes(t, x, size, b, e, api.ErrRange)
			case size < least:
				wrongBytes(t, x, size, b, e, api.ErrBig)
			case e != api.OK || !bytes.Equal(b, x.FillBytes(make([]byte, size))):
				t.Error("Bytes", x, size, b, e)
			}
		}
	}
	if b, e := natform.Bytes(nat(0x23456789, 1), 6); e != api.OK || !bytes.Equal(b, []byte{0, 1, 0x23, 0x45, 0x67, 0x89}) {
		t.Error("the example", b, e)
	}
	for _, size := range []int{0, 1, 2, longest} {
		if b, e := natform.Bytes(nat(), size); e != api.OK || !bytes.Equal(b, make([]byte, size)) {
			t.Error("Bytes of 0", size, b, e)
		}
	}
}

// wrongBytes checks an error, with which there are no bytes.
func wrongBytes(t *testing.T, x *big.Int, size int, b []byte, e, want api.Errno) {
	t.Helper()
	if e != want || len(b) != 0 {
		t.Error("Bytes", x, size, "is", b, e, "not", want)
	}
}

// P4.4: a number that is not valid comes before a wrong size, and that before a number that does not fit.
func TestOrderOfErrorsOfBytes(t *testing.T) {
	wrong := []int{-1, -2, -7, longest + 1, longest + 2, 1 << 32, -1 << 32, math.MinInt, math.MaxInt}
	for _, size := range wrong {
		for _, x := range []*big.Int{big.NewInt(0), big.NewInt(1), power(256, 7, 0), power(2, top, -1)} {
			b, e := natform.Bytes(of(x), size)
			wrongBytes(t, x, size, b, e, api.ErrRange)
		}
	}
	for _, n := range invalid() {
		for _, size := range append([]int{0, 1, 4, 255, 256, 257, longest}, wrong...) {
			b, e := natform.Bytes(n, size)
			wrongBytes(t, value(n), size, b, e, api.ErrArg)
		}
	}
}

// P4.5
func TestNumbersOfBytes(t *testing.T) {
	for _, x := range values() {
		for _, zeros := range []int{0, 1, 2, 6, 7, 8, 100, longest - 256, longest - len(x.Bytes())} {
			n, e := natform.FromBytes(append(make([]byte, zeros), x.Bytes()...))
			expect(t, strconv.Itoa(zeros)+" zeros and "+x.Text(16), n, e, x)
		}
	}
	for _, b := range [][]byte{nil, {}, {0}, make([]byte, 7), make([]byte, longest)} {
		n, e := natform.FromBytes(b)
		expect(t, strconv.Itoa(len(b))+" zeros", n, e, new(big.Int))
	}
	if n, e := natform.FromBytes([]byte{0, 1, 0x23, 0x45, 0x67, 0x89}); e != api.OK || !slices.Equal(n.W, []uint32{0x23456789, 1}) {
		t.Error("the example", n, e)
	}
}

// P4.5: the greatest number, greater ones, and too many bytes, which come before them.
func TestErrorsOfBytes(t *testing.T) {
	for x := -3; x <= 3; x++ {
		y := power(2, top, x)
		for _, zeros := range []int{0, 1, 7, longest - len(y.Bytes())} {
			n, e := natform.FromBytes(append(make([]byte, zeros), y.Bytes()...))
			expect(t, strconv.Itoa(zeros)+" zeros and "+y.Text(16), n, e, y)
		}
	}
	for i := range longest {
		b := make([]byte, longest)
		b[i] = 1
		n, e := natform.FromBytes(b)
		expect(t, "1 at "+strconv.Itoa(i), n, e, power(256, longest-1-i, 0))
	}
	for _, length := range []int{longest + 1, longest + 7, 10 * longest} {
		for _, x := range []byte{0, 1, 255} {
			n, e := natform.FromBytes(bytes.Repeat([]byte{x}, length))
			fails(t, "too many bytes", n, e, api.ErrFull)
			n, e = natform.FromBytes(append(make([]byte, length-1), x))
			fails(t, "too many bytes", n, e, api.ErrFull)
		}
	}
}

// P4.6
func TestFormsAreReadAsTheirNumber(t *testing.T) {
	for _, x := range values() {
		n := of(x)
		m, e := natform.Parse(natform.Text(n))
		expect(t, "Parse of Text", m, e, x)
		m, e = natform.ParseHex(natform.Hex(n))
		expect(t, "ParseHex of Hex", m, e, x)
		for _, size := range []int{256, 259, longest} {
			b, _ := natform.Bytes(n, size)
			m, e = natform.FromBytes(b)
			expect(t, "FromBytes of Bytes", m, e, x)
		}
	}
}

// P4.6: all strings of up to three of some characters, and longer ones.
func TestStringsThatAreReadAreThoseOfTheirNumbers(t *testing.T) {
	characters := []string{"", "0", "1", "9", "a", "f", "A", "g", "-", "+", " ", "_", "x", "\xc3"}
	for _, a := range characters {
		for _, b := range characters {
			for _, c := range characters {
				for _, end := range []string{"", "0000000", "1234567890", strings.Repeat("7", 600)} {
					s := a + b + c + end
					if n, e := natform.Parse(s); e == api.OK && natform.Text(n) != s {
						t.Error("Parse", strconv.Quote(s), n)
					}
					if n, e := natform.ParseHex(s); e == api.OK && natform.Hex(n) != s {
						t.Error("ParseHex", strconv.Quote(s), n)
					}
				}
			}
		}
	}
}

// P4.6
func TestHexadecimalStringsAreBytes(t *testing.T) {
	for _, x := range values() {
		if x.Sign() == 0 { // its string keeps one zero
			continue
		}
		b, e := natform.Bytes(of(x), 256)
		if s := strings.TrimLeft(hex.EncodeToString(b), "0"); e != api.OK || s != natform.Hex(of(x)) {
			t.Error(s, natform.Hex(of(x)), e)
		}
	}
}

// Results share no memory with arguments or with each other, arguments are not modified, and what lies behind their end does not matter.
func TestMemory(t *testing.T) {
	for _, x := range []*big.Int{big.NewInt(0), big.NewInt(1), big.NewInt(255), power(256, 7, -1), power(256, 7, 0), power(2, top, -1)} {
		words := append(of(x).W, 77, 78, 79)
		n := api.Nat{W: words[:len(words)-3]}
		before := slices.Clone(words)
		b, e := natform.Bytes(n, 256)
		if natform.Text(n) != x.Text(10) || natform.Hex(n) != x.Text(16) || e != api.OK || !bytes.Equal(b, x.FillBytes(make([]byte, 256))) || !slices.Equal(words, before) {
			t.Error("modified words", x, words)
		}
		overwrite(b)
		if !slices.Equal(words, before) {
			t.Error("shared words", x, words)
		}
		all := append(x.FillBytes(make([]byte, 256)), 77, 78, 79)
		kept := slices.Clone(all)
		m, e := natform.FromBytes(all[:256])
		expect(t, "FromBytes", m, e, x)
		if !bytes.Equal(all, kept) {
			t.Error("modified bytes", x, all)
		}
		overwrite(all)
		expect(t, "shared bytes of", m, e, x)
	}
}

// overwrite changes all bytes of a list.
func overwrite(b []byte) {
	for i := range b {
		b[i] += 123
	}
}
