package digest_test

import (
	"bytes"
	"crypto/sha256"
	"encoding/binary"
	"encoding/hex"
	"math"
	"math/big"
	"math/rand/v2"
	"slices"
	"strconv"
	"strings"
	"testing"

	"specie/api"
	"specie/digest"
)

// some returns n bytes without a pattern, always the same ones.
func some(n int) []byte {
	source := rand.New(rand.NewPCG(6, uint64(n)))
	b := make([]byte, n)
	for i := range b {
		b[i] = byte(source.Uint32())
	}
	return b
}

// hashes returns digests with one byte that is not zero, or not 255, and others without a pattern.
func hashes() []api.Hash {
	l := []api.Hash{{}, filled(255)}
	for i := range 32 {
		for _, x := range []byte{1, 15, 16, 127, 128, 255} {
			zeros, ones := api.Hash{}, filled(255)
			zeros[i], ones[i] = x, 255-x
			l = append(l, zeros, ones)
		}
	}
	for n := 32; n < 132; n++ {
		l = append(l, api.Hash(some(n)[:32]))
	}
	return l
}

// filled returns a digest with equal bytes.
func filled(x byte) api.Hash { return api.Hash(bytes.Repeat([]byte{x}, 32)) }

// short cuts a text that would fill the screen.
func short(s string) string {
	if len(s) > 140 {
		return strconv.Quote(s[:60]) + ".. (" + strconv.Itoa(len(s)) + " bytes)"
	}
	return strconv.Quote(s)
}

// P6.1: digests that were published with the definition (FIPS 180).
func TestPublishedSums(t *testing.T) {
	for b, want := range map[string]string{
		"":    "e3b0c44298fc1c149afbf4c8996fb92427ae41e4649b934ca495991b7852b855",
		"abc": "ba7816bf8f01cfea414140de5dae2223b00361a396177a9cb410ff61f20015ad",
		"abcdbcdecdefdefgefghfghighijhijkijkljklmklmnlmnomnopnopq": "248d6a61d20638b8e5c026930c3e6039a33ce45964ff2167f6ecedd419db06c1",
		strings.Repeat("a", 1_000_000):                             "cdc76e5c9914fb9281a1c7e284d73e67f1809a48a497200e046d39ccc7112cd0",
	} {
		if h := digest.Sum([]byte(b)); hex.EncodeToString(h[:]) != want {
			t.Error(short(b), h, "not", want)
		}
	}
}

// P6.1: all lengths up to some blocks, so that the padding has all its lengths.
func TestSums(t *testing.T) {
	for n := range 600 {
		for _, b := range [][]byte{some(n), make([]byte, n), bytes.Repeat([]byte{128}, n), bytes.Repeat([]byte{255}, n)} {
			if h := digest.Sum(b); h != sha256.Sum256(b) {
				t.Error(n, h)
			}
		}
	}
	for _, n := range []int{1<<13 - 1, 1 << 13, 1<<16 + 55, 1<<16 + 56, 1<<21 + 63, 1 << 22} {
		b := some(n)
		if h := digest.Sum(b); h != sha256.Sum256(b) {
			t.Error(n, h)
		}
	}
	if digest.Sum(nil) != digest.Sum([]byte{}) {
		t.Error("nil")
	}
}

// P6.1: from 2^29 bytes on the number of bits has more than four bytes.
func TestSumOfManyBytes(t *testing.T) {
	b := make([]byte, 1<<29)
	if h := digest.Sum(b); h != sha256.Sum256(b) {
		t.Error(h)
	}
}

// tags returns the shortest and the longest tags, and others; lengths are those in bytes.
func tags() []string {
	return []string{
		"a", "t", "\x00", "\xff", " ", "é", "coin", "a tag", strings.Repeat("x", 55), strings.Repeat("x", 64), strings.Repeat("x", 99), strings.Repeat("x", 100),
		strings.Repeat("\x00", 100), strings.Repeat("\xff", 100), strings.Repeat("é", 50),
	}
}

// P6.2
func TestTagged(t *testing.T) {
	for _, tag := range tags() {
		first := sha256.Sum256([]byte(tag))
		for _, n := range []int{0, 1, 55, 56, 63, 64, 65, 200, api.MaxBytes} {
			b := some(n)
			h, e := digest.Tagged(tag, b)
			if want := sha256.Sum256(slices.Concat(first[:], first[:], b)); e != api.OK || h != want {
				t.Error(short(tag), n, h, e, "not", want)
			}
		}
		h, e := digest.Tagged(tag, nil)
		if empty, _ := digest.Tagged(tag, []byte{}); e != api.OK || h != empty {
			t.Error(short(tag), h, e)
		}
	}
}

// P6.2
func TestWrongTags(t *testing.T) {
	for _, tag := range []string{"", strings.Repeat("x", 101), strings.Repeat("\x00", 101), strings.Repeat("é", 51), strings.Repeat("é", 100), strings.Repeat("x", 256), strings.Repeat("x", 100_000)} {
		for _, b := range [][]byte{nil, {}, []byte("abc"), some(100)} {
			if h, e := digest.Tagged(tag, b); e != api.ErrRange || h != (api.Hash{}) {
				t.Error(short(tag), h, e)
			}
		}
	}
}

// stream returns the first n bytes of a stream, as the chapter defines it.
func stream(seed api.Hash, n int) []byte {
	var b []byte
	for i := uint64(0); len(b) < n; i++ {
		block := sha256.Sum256(binary.BigEndian.AppendUint64(seed[:], i))
		b = append(b, block[:]...)
	}
	return b[:n]
}

// P6.3
func TestExpand(t *testing.T) {
	seeds := []api.Hash{{}, filled(255), api.Hash(some(32)), digest.Sum(nil)}
	for _, seed := range seeds {
		for n := range 200 {
			if b, e := digest.Expand(seed, n); e != api.OK || !bytes.Equal(b, stream(seed, n)) {
				t.Error(n, b, e)
			}
		}
		// from 256 blocks on their number has two bytes
		for _, n := range []int{255 * 32, 256*32 - 1, 256 * 32, 256*32 + 1, 300 * 32, api.MaxBytes - 32, api.MaxBytes - 1, api.MaxBytes} {
			if b, e := digest.Expand(seed, n); e != api.OK || !bytes.Equal(b, stream(seed, n)) {
				t.Error(n, len(b), e)
			}
		}
	}
}

// P6.3
func TestStreamsOfNoLength(t *testing.T) {
	for _, n := range []int{-1, -2, -32, -1 << 32, math.MinInt, api.MaxBytes + 1, api.MaxBytes + 32, 1 << 32, math.MaxInt} {
		for _, seed := range []api.Hash{{}, api.Hash(some(32))} {
			if b, e := digest.Expand(seed, n); e != api.ErrRange || len(b) != 0 {
				t.Error(n, len(b), e)
			}
		}
	}
}

// moduli returns small numbers, the powers of 2 with their neighbors, the greatest moduli, and others without a pattern.
func moduli() []int {
	var l []int
	for m := 1; m < 70; m++ {
		l = append(l, m)
	}
	for n := 7; n < 61; n++ {
		l = append(l, 1<<n-1, 1<<n, 1<<n+1)
	}
	l = append(l, api.MaxWord-3, api.MaxWord-2, api.MaxWord-1)
	source := rand.New(rand.NewPCG(6, 4))
	for range 50 {
		l = append(l, 1+source.IntN(api.MaxWord-1))
	}
	return l
}

// P6.4
func TestNumber(t *testing.T) {
	for _, h := range hashes() {
		x := new(big.Int).SetBytes(h[:16])
		for _, m := range moduli() {
			want := new(big.Int).Mod(x, big.NewInt(int64(m)))
			if n, e := digest.Number(h, m); e != api.OK || int64(n) != want.Int64() {
				t.Error(h, m, n, e, "not", want)
			}
		}
	}
}

// P6.4: the last 16 bytes do not matter.
func TestNumberOfTheFirstBytes(t *testing.T) {
	for _, h := range hashes() {
		other := h
		copy(other[16:], some(16))
		for _, m := range []int{1, 2, 1 << 32, 1_000_003, api.MaxWord - 1} {
			x, _ := digest.Number(h, m)
			if y, e := digest.Number(other, m); e != api.OK || x != y {
				t.Error(h, m, x, y, e)
			}
		}
	}
}

// P6.4
func TestNumberOfNoModulus(t *testing.T) {
	for _, m := range []int{0, -1, -2, -1 << 32, -api.MaxWord, math.MinInt, api.MaxWord, api.MaxWord + 1, 1 << 62, math.MaxInt} {
		for _, h := range []api.Hash{{}, filled(255), api.Hash(some(32))} {
			if n, e := digest.Number(h, m); e != api.ErrArg || n != 0 {
				t.Error(h, m, n, e)
			}
		}
	}
}

// P6.5
func TestTexts(t *testing.T) {
	l := hashes()
	for x := range 256 {
		l = append(l, filled(byte(x)))
	}
	for _, h := range l {
		s := digest.Hex(h)
		if s != hex.EncodeToString(h[:]) {
			t.Error(h, s)
		}
		if x, e := digest.Parse(hex.EncodeToString(h[:])); e != api.OK || x != h {
			t.Error(s, x, e)
		}
	}
	if s := digest.Hex(api.Hash{0: 0xAB, 1: 0xC0, 31: 0x0F}); s != "abc0"+strings.Repeat("0", 58)+"0f" {
		t.Error(s)
	}
}

// P6.5: texts of no digest.
func TestMalformedTexts(t *testing.T) {
	good := "0123456789abcdef0123456789abcdef0123456789abcdef0123456789abcdef"
	fails := func(s string) {
		t.Helper()
		if h, e := digest.Parse(s); e != api.ErrForm || h != (api.Hash{}) {
			t.Error(short(s), h, e)
		}
	}
	for n := range 200 {
		if n != 64 {
			fails(strings.Repeat("a", n))
			fails(strings.Repeat("0", n))
		}
	}
	for _, s := range []string{
		good[:62], good[:63], good[1:], good + "0", good + "00", good + "\n", " " + good, good[:63] + "\n", " " + good[1:], "0x" + good, "0x" + good[2:], good + good,
		strings.ToUpper(good), strings.Repeat("A", 64), strings.Repeat("é", 32), strings.Repeat("１", 64), strings.Repeat("g", 64), strings.Repeat("\xff", 64), strings.Repeat("a", 100_000),
	} {
		fails(s)
	}
	for i := range good {
		for c := range 256 {
			s := good[:i] + string([]byte{byte(c)}) + good[i+1:]
			if strings.IndexByte("0123456789abcdef", byte(c)) < 0 {
				fails(s)
			} else if h, e := digest.Parse(s); e != api.OK || hex.EncodeToString(h[:]) != s {
				t.Error(s, h, e)
			}
		}
	}
}

// P6.6: the first byte that differs decides, whatever follows.
func TestCompare(t *testing.T) {
	for _, h := range hashes() {
		if c := digest.Compare(h, h); c != 0 {
			t.Error(h, c)
		}
	}
	for i := range 32 {
		for _, x := range [][2]byte{{0, 1}, {0, 255}, {127, 128}, {254, 255}, {1, 16}} {
			for _, rest := range [][2]byte{{0, 0}, {255, 0}, {0, 255}} {
				a, b := api.Hash(some(32)), api.Hash(some(32))
				for j := i; j < 32; j++ {
					a[j], b[j] = rest[0], rest[1]
				}
				a[i], b[i] = x[0], x[1]
				if c, d := digest.Compare(a, b), digest.Compare(b, a); c != -1 || d != 1 {
					t.Error(a, b, c, d)
				}
			}
		}
	}
}

// P6.7
func TestStreamsBeginWithShorterOnes(t *testing.T) {
	seed := api.Hash(some(32))
	all, _ := digest.Expand(seed, api.MaxBytes)
	if len(all) != api.MaxBytes {
		t.Fatal(len(all))
	}
	for n := 0; n <= api.MaxBytes; n += 1 + n/3 {
		if b, e := digest.Expand(seed, n); e != api.OK || len(b) != n || !bytes.HasPrefix(all, b) {
			t.Error(n, len(b), e)
		}
	}
}

// P6.7
func TestNumbersModuloMultiples(t *testing.T) {
	for _, h := range hashes() {
		for _, m := range []int{1, 2, 3, 10, 1 << 16, 1<<31 - 1, 1 << 32, 1_000_000_007, 1<<40 + 1} {
			x, _ := digest.Number(h, m)
			for _, f := range []int{1, 2, 3, 7, 1 << 10, 1_000_003, (api.MaxWord - 1) / m} {
				if y, e := digest.Number(h, m*f); e != api.OK || y%m != x {
					t.Error(h, m, f, x, y, e)
				}
			}
		}
	}
}

// P6.7
func TestTextsAreReadAsTheirDigests(t *testing.T) {
	for _, h := range hashes() {
		if x, e := digest.Parse(digest.Hex(h)); e != api.OK || x != h {
			t.Error(h, x, e)
		}
	}
}

// P6.7
func TestDigestsAreOrderedAsTheirTexts(t *testing.T) {
	l := hashes()
	for _, a := range l {
		for _, b := range l {
			if c := digest.Compare(a, b); c != strings.Compare(digest.Hex(a), digest.Hex(b)) {
				t.Error(a, b, c)
			}
		}
	}
}

// Arguments are not modified, nor what lies behind their end, which does not matter either.
func TestArgumentsAreKept(t *testing.T) {
	for _, n := range []int{0, 1, 55, 56, 63, 64, 65, 200} {
		all := some(n + 300)
		before := slices.Clone(all)
		h := digest.Sum(all[:n])
		g, _ := digest.Tagged("tag", all[:n])
		if !bytes.Equal(all, before) {
			t.Error("modified", n)
		}
		clear(all[n:])
		other, _ := digest.Tagged("tag", all[:n])
		if digest.Sum(all[:n]) != h || other != g {
			t.Error("more than", n)
		}
	}
}

// Results share no memory with each other, and do not reach beyond their end.
func TestStreamsAreNew(t *testing.T) {
	seed := api.Hash(some(32))
	for _, n := range []int{0, 1, 31, 32, 33, 100, 1000} {
		a, _ := digest.Expand(seed, n)
		b, _ := digest.Expand(seed, n)
		if cap(a) != len(a) {
			t.Error(n, cap(a))
		}
		for i := range a {
			a[i]++
		}
		if c, _ := digest.Expand(seed, n); !bytes.Equal(b, stream(seed, n)) || !bytes.Equal(c, b) {
			t.Error("shared", n)
		}
	}
}
