package natmod_test

import (
	"math"
	"math/big"
	"math/rand/v2"
	"slices"
	"strconv"
	"testing"

	"specie/api"
	"specie/natmod"
	"specie/natural"
	"specie/word"
)

const (
	full = math.MaxUint32
	most = 1024              // moduli are less than 2^most
	top  = 32 * api.MaxWords // valid numbers are less than 2^top
)

// nat returns the number with some words.
func nat(w ...uint32) api.Nat { return api.Nat{W: w} }

// of returns the number with a value.
func of(x *big.Int) api.Nat {
	var w []uint32
	for x = new(big.Int).Set(x); x.Sign() > 0; x.Rsh(x, 32) {
		w = append(w, uint32(new(big.Int).And(x, number(full)).Uint64()))
	}
	return api.Nat{W: w}
}

// value is the value of the words, valid or not.
func value(n api.Nat) *big.Int {
	x := new(big.Int)
	for i := len(n.W) - 1; i >= 0; i-- {
		x.Lsh(x, 32).Or(x, number(int(n.W[i])))
	}
	return x
}

func number(x int) *big.Int { return big.NewInt(int64(x)) }

func small(x int) api.Nat { return of(number(x)) }

// power returns 2^n + x.
func power(n, x int) api.Nat {
	y := new(big.Int).Lsh(number(1), uint(n))
	return of(y.Add(y, number(x)))
}

func text(n api.Nat) string {
	if len(n.W) > api.MaxWords {
		return strconv.Itoa(len(n.W)) + " words"
	}
	return "0x" + value(n).Text(16)
}

func same(a, b api.Nat) bool { return slices.Equal(a.W, b.W) }

// random returns numbers of some words without a pattern: always the same ones for the same seed.
func random(seed uint64, words ...int) []api.Nat {
	source := rand.New(rand.NewPCG(seed, 3))
	var l []api.Nat
	for _, n := range words {
		w := make([]uint32, n)
		for i := range w {
			w[i] = source.Uint32()
		}
		w[n-1] |= 1
		l = append(l, api.Nat{W: w})
	}
	return l
}

// moduli returns all small ones, the ends of the range, powers of 2, composite numbers and primes of all lengths.
func moduli() []api.Nat {
	var l []api.Nat
	for m := 1; m <= 12; m++ {
		l = append(l, small(m))
	}
	l = append(l, nat(full), power(32, 0), power(32, 15), power(61, -1), power(64, 13), power(127, -1), power(521, -1), power(992, 0), power(most-1, 0), power(most, -105), power(most, -2), power(most, -1))
	return append(l, random(1, 2, 3, 7, 16, 31, 32)...)
}

// residues returns the ends, the middle, and some others of the residues of m; for a small m all of them.
func residues(m api.Nat) []api.Nat {
	var l []api.Nat
	x := value(m)
	if x.IsInt64() && x.Int64() <= 12 {
		for a := range int(x.Int64()) {
			l = append(l, small(a))
		}
		return l
	}
	for _, a := range []int{0, 1, 2, 3, 6} {
		l = append(l, small(a))
	}
	for _, a := range []int{1, 2, 6} {
		l = append(l, of(new(big.Int).Sub(x, number(a))))
	}
	half := new(big.Int).Rsh(x, 1)
	l = append(l, of(half), of(half.Add(half, number(1))), of(new(big.Int).Sqrt(x)))
	for _, n := range random(2, len(m.W), len(m.W), len(m.W)/2+1) {
		l = append(l, of(new(big.Int).Mod(value(n), x)))
	}
	return l
}

// wild returns numbers that are tried as arguments of every kind: some are not valid, some are too big for a modulus.
func wild() []api.Nat {
	return []api.Nat{
		nat(), nat(1), nat(2), nat(5), nat(6), nat(full), nat(13, 0, 1), power(most-1, 0), power(most, -1), power(most, 0), power(top, -1),
		nat(0), nat(5, 0), {W: append(power(most, -1).W, 0)}, {W: make([]uint32, api.MaxWords)}, {W: append(power(top, -1).W, 1)}, {W: append(power(top, -1).W, 0)},
	}
}

// valid says again what layer 2 says, as a number.
func valid(n api.Nat) bool {
	return len(n.W) == 0 || value(n).BitLen() <= top && n.W[len(n.W)-1] != 0 && len(n.W) <= api.MaxWords
}

func modulus(n api.Nat) bool {
	return valid(n) && value(n).Sign() > 0 && value(n).BitLen() <= most
}

func less(a, b api.Nat) bool { return value(a).Cmp(value(b)) < 0 }

// expected is the error for a modulus, numbers that should be residues, and others that need only be valid.
func expected(m api.Nat, residues []api.Nat, others ...api.Nat) api.Errno {
	e := api.OK
	if !modulus(m) {
		return api.ErrArg
	}
	for _, n := range others {
		if !valid(n) {
			return api.ErrArg
		}
	}
	for _, a := range residues {
		if !valid(a) {
			return api.ErrArg
		}
		if !less(a, m) {
			e = api.ErrRange
		}
	}
	return e
}

// expect compares a result with the value that it should have.
func expect(t *testing.T, name string, got api.Nat, e api.Errno, want *big.Int) {
	t.Helper()
	if e != api.OK || !valid(got) || value(got).Cmp(want) != 0 {
		t.Error(name, "is", text(got), e, "not", "0x"+want.Text(16))
	}
}

// fails checks an error, with which the number is zero.
func fails(t *testing.T, name string, got api.Nat, e, want api.Errno) {
	t.Helper()
	if e != want || len(got.W) != 0 {
		t.Error(name, "is", text(got), e, "not", want)
	}
}

// must returns the result of a call that may not fail.
func must(t *testing.T) func(api.Nat, api.Errno) api.Nat {
	return func(n api.Nat, e api.Errno) api.Nat {
		t.Helper()
		if e != api.OK {
			t.Fatal("error", e)
		}
		return n
	}
}

func names(l ...api.Nat) string {
	s := ""
	for _, n := range l {
		s += " " + text(n)
	}
	return s
}

// P3.1
func TestSumsDifferencesAndProducts(t *testing.T) {
	for _, m := range moduli() {
		for _, a := range residues(m) {
			for _, b := range residues(m) {
				x, y, z := value(a), value(b), value(m)
				n, e := natmod.Add(a, b, m)
				expect(t, "Add"+names(a, b, m), n, e, new(big.Int).Mod(new(big.Int).Add(x, y), z))
				n, e = natmod.Sub(a, b, m)
				expect(t, "Sub"+names(a, b, m), n, e, new(big.Int).Mod(new(big.Int).Sub(x, y), z))
				n, e = natmod.Mul(a, b, m)
				expect(t, "Mul"+names(a, b, m), n, e, new(big.Int).Mod(new(big.Int).Mul(x, y), z))
			}
		}
	}
	// -13 modulo 2^64 + 13
	if n := must(t)(natmod.Mul(nat(0, 1), nat(0, 1), power(64, 13))); !slices.Equal(n.W, []uint32{0, 0, 1}) {
		t.Error("the square of 2^32", n)
	}
}

// P3.2
func TestPowers(t *testing.T) {
	exponents := append(random(3, 1, 2, 5, api.MaxWords), nat(), nat(1), nat(2), nat(3), nat(10), nat(full), power(32, 0), power(64, 0), power(64, 12), power(most, 0), power(top-1, 0), power(top, -1))
	for _, m := range moduli() {
		for i, a := range residues(m) {
			for j, x := range exponents {
				if len(m.W)+len(x.W) > 60 && (i+j)%5 != 0 { // the largest ones take long
					continue
				}
				n, e := natmod.Pow(a, x, m)
				expect(t, "Pow"+names(a, x, m), n, e, new(big.Int).Exp(value(a), value(x), value(m)))
			}
		}
	}
}

// P3.2
func TestPowersWithExponentZero(t *testing.T) {
	for _, m := range moduli() {
		for _, a := range residues(m) {
			n, e := natmod.Pow(a, nat(), m)
			expect(t, "Pow"+names(a, nat(), m), n, e, new(big.Int).Mod(number(1), value(m)))
		}
	}
}

// fibonacci returns the n-th number of Fibonacci: two neighbors take the algorithm of Euclid the most steps.
func fibonacci(n int) api.Nat {
	x, y := number(0), number(1)
	for range n {
		x, y = y, x.Add(x, y)
	}
	return of(x)
}

// P3.3
func TestGcd(t *testing.T) {
	l := append(random(4, 1, 2, 31, 33, 63, api.MaxWords), fibonacci(1000), fibonacci(2900), fibonacci(2901), power(top-1, 0), power(top, -1), power(most, -1), power(most, 0), power(most, 1))
	for a := range 13 {
		l = append(l, small(a))
	}
	for _, a := range l {
		for _, b := range l {
			n, e := natmod.Gcd(a, b)
			expect(t, "Gcd"+names(a, b), n, e, new(big.Int).GCD(nil, nil, value(a), value(b)))
		}
	}
	// common divisors of two words, four words, and all words
	for _, d := range random(5, 2, 4, 20) {
		for _, p := range [][2]int{{0, 0}, {0, 1}, {1, 1}, {6, 9}, {10, 21}, {1 << 30, 1 << 31}} {
			a, b := new(big.Int).Mul(value(d), number(p[0])), new(big.Int).Mul(value(d), number(p[1]))
			n, e := natmod.Gcd(of(a), of(b))
			expect(t, "Gcd"+names(of(a), of(b)), n, e, new(big.Int).GCD(nil, nil, a, b))
		}
	}
	for _, a := range wild() {
		for _, b := range wild() {
			n, e := natmod.Gcd(a, b)
			if valid(a) && valid(b) {
				expect(t, "Gcd"+names(a, b), n, e, new(big.Int).GCD(nil, nil, value(a), value(b)))
			} else {
				fails(t, "Gcd"+names(a, b), n, e, api.ErrArg)
			}
		}
	}
}

// P3.3
func TestInverse(t *testing.T) {
	long := fibonacci(1470)
	for _, m := range append(moduli(), fibonacci(1471), small(36), small(3*5*7*11*13*17*19*23), of(new(big.Int).Mul(value(power(400, -1)), value(power(500, -1))))) {
		for _, a := range append(residues(m), of(new(big.Int).Mod(value(long), value(m)))) {
			n, e := natmod.Inverse(a, m)
			switch want := new(big.Int).ModInverse(value(a), value(m)); {
			case value(m).Cmp(number(1)) == 0: // where math/big has no answer
				expect(t, "Inverse"+names(a, m), n, e, number(0))
			case want == nil:
				fails(t, "Inverse"+names(a, m), n, e, api.ErrZero)
			default:
				expect(t, "Inverse"+names(a, m), n, e, want)
			}
		}
	}
	if n := must(t)(natmod.Inverse(nat(2), power(64, 13))); !slices.Equal(n.W, []uint32{7, 1 << 31}) {
		t.Error("the inverse of 2 modulo 2^64 + 13", n)
	}
}

// expectCrt checks the result, or the error, for two residues and their moduli.
func expectCrt(t *testing.T, a, p, b, q api.Nat) {
	t.Helper()
	n, e := natmod.Crt(a, p, b, q)
	name := "Crt" + names(a, p, b, q)
	all := new(big.Int).Mul(value(p), value(q))
	switch d := new(big.Int).GCD(nil, nil, value(p), value(q)); {
	case d.Cmp(number(1)) != 0:
		fails(t, name, n, e, api.ErrZero)
	case all.BitLen() > most:
		fails(t, name, n, e, api.ErrBig)
	case e != api.OK || !valid(n) || value(n).Cmp(all) >= 0:
		t.Error(name, "is", text(n), e)
	default:
		x := value(n)
		if new(big.Int).Mod(x, value(p)).Cmp(value(a)) != 0 || new(big.Int).Mod(x, value(q)).Cmp(value(b)) != 0 {
			t.Error(name, "is", text(n))
		}
	}
}

// P3.4
func TestCrt(t *testing.T) {
	l := append(moduli(), power(512, -1), power(512, 1), power(511, 0))
	for _, p := range l {
		for _, q := range l {
			m, n := residues(p), residues(q)
			for i := range max(len(m), len(n)) {
				for _, shift := range []int{0, 1, 2} {
					expectCrt(t, m[i%len(m)], p, n[(i+shift)%len(n)], q)
				}
			}
		}
	}
	if n := must(t)(natmod.Crt(nat(2), nat(3), nat(3), nat(5))); !slices.Equal(n.W, []uint32{8}) {
		t.Error("Crt 2 3 3 5", n)
	}
}

// P3.4
func TestWhereCrtBecomesTooBig(t *testing.T) {
	// (2^512 - 1) (2^512 + 1) is 2^1024 - 1, the greatest modulus
	p, q := power(512, -1), power(512, 1)
	n, e := natmod.Crt(power(512, -2), p, power(512, 0), q)
	expect(t, "the greatest result", n, e, value(power(most, -2)))
	// 45592577 is a factor of 2^1024 + 1, the least product that is too big
	p = small(45592577)
	k, r, _ := natural.Div(power(most, 1), p)
	if len(r.W) != 0 {
		t.Fatal("no factor")
	}
	for _, c := range [][4]api.Nat{{nat(), p, nat(), k}, {nat(), k, nat(), p}, {nat(1), p, nat(1), k}, {nat(), power(most, -1), nat(), power(most, -2)}} {
		n, e := natmod.Crt(c[0], c[1], c[2], c[3])
		fails(t, "Crt"+names(c[:]...), n, e, api.ErrBig)
	}
	// a common divisor is named before a product that is too big
	n, e = natmod.Crt(nat(1), power(most-1, 0), nat(1), power(1000, 0))
	fails(t, "Crt of powers of 2", n, e, api.ErrZero)
}

// P1, P3.1 to P3.4: what is not valid, or no modulus, comes before what is no residue, and that before all other errors.
func TestErrors(t *testing.T) {
	for _, m := range wild() {
		for _, a := range wild() {
			for _, b := range wild() {
				for i, f := range []func(a, b, m api.Nat) (api.Nat, api.Errno){natmod.Add, natmod.Sub, natmod.Mul} {
					if n, e := f(a, b, m); e != api.OK || expected(m, []api.Nat{a, b}) != api.OK {
						fails(t, strconv.Itoa(i)+" of"+names(a, b, m), n, e, expected(m, []api.Nat{a, b}))
					}
				}
				want := expected(m, []api.Nat{a}, b)
				if want == api.OK && len(b.W) > most/32 { // such powers take long, and are tested elsewhere
					continue
				}
				if n, e := natmod.Pow(a, b, m); e != api.OK || want != api.OK {
					fails(t, "Pow"+names(a, b, m), n, e, want)
				}
			}
			want := expected(m, []api.Nat{a})
			if n, e := natmod.Inverse(a, m); want != api.OK {
				fails(t, "Inverse"+names(a, m), n, e, want)
			}
		}
	}
}

// P1, P3.4
func TestErrorsOfCrt(t *testing.T) {
	for _, p := range wild() {
		for _, q := range wild() {
			for _, a := range wild() {
				for _, b := range wild() {
					e, f := expected(p, []api.Nat{a}), expected(q, []api.Nat{b})
					switch n, got := natmod.Crt(a, p, b, q); {
					case e == api.ErrArg || f == api.ErrArg:
						fails(t, "Crt"+names(a, p, b, q), n, got, api.ErrArg)
					case e == api.ErrRange || f == api.ErrRange:
						fails(t, "Crt"+names(a, p, b, q), n, got, api.ErrRange)
					default:
						expectCrt(t, a, p, b, q)
					}
				}
			}
		}
	}
}

// P3.5
func TestRing(t *testing.T) {
	ok := must(t)
	for _, m := range moduli() {
		add := func(a, b api.Nat) api.Nat { return ok(natmod.Add(a, b, m)) }
		mul := func(a, b api.Nat) api.Nat { return ok(natmod.Mul(a, b, m)) }
		one := ok(natmod.Pow(nat(), nat(), m))
		for _, a := range residues(m) {
			if !same(add(a, nat()), a) || !same(mul(a, one), a) || len(add(a, ok(natmod.Sub(nat(), a, m))).W) != 0 {
				t.Error("neutral or inverse elements", text(a), text(m))
			}
			for _, b := range residues(m) {
				if !same(add(a, b), add(b, a)) || !same(mul(a, b), mul(b, a)) || !same(add(ok(natmod.Sub(a, b, m)), b), a) {
					t.Error("commutative laws, or a difference", text(a), text(b), text(m))
				}
				for _, c := range residues(m) {
					if !same(add(add(a, b), c), add(a, add(b, c))) || !same(mul(mul(a, b), c), mul(a, mul(b, c))) || !same(mul(a, add(b, c)), add(mul(a, b), mul(a, c))) {
						t.Error("associative and distributive laws", text(a), text(b), text(c), text(m))
					}
				}
			}
		}
	}
}

// P3.5
func TestLawsOfExponents(t *testing.T) {
	ok := must(t)
	exponents := append(random(6, 1, 2), nat(), nat(1), nat(2), nat(7), power(40, 0))
	for _, m := range moduli() {
		pow := func(a, e api.Nat) api.Nat { return ok(natmod.Pow(a, e, m)) }
		mul := func(a, b api.Nat) api.Nat { return ok(natmod.Mul(a, b, m)) }
		all := residues(m)
		for i, a := range all {
			b := all[len(all)-1-i]
			for _, e := range exponents {
				for _, f := range exponents {
					if !same(pow(a, ok(natural.Add(e, f))), mul(pow(a, e), pow(a, f))) || !same(pow(pow(a, e), f), pow(a, ok(natural.Mul(e, f)))) {
						t.Error("sums and products of exponents", text(a), text(e), text(f), text(m))
					}
				}
				if !same(pow(mul(a, b), e), mul(pow(a, e), pow(b, e))) {
					t.Error("powers of products", text(a), text(b), text(e), text(m))
				}
			}
		}
	}
}

// P3.5
func TestInversesUndoProducts(t *testing.T) {
	ok := must(t)
	for _, m := range moduli() {
		for _, a := range residues(m) {
			x, e := natmod.Inverse(a, m)
			if e != api.OK {
				continue
			}
			for _, b := range residues(m) {
				if !same(ok(natmod.Mul(ok(natmod.Mul(b, a, m)), x, m)), b) {
					t.Error(text(a), text(x), text(b), text(m))
				}
			}
		}
	}
}

// expectWord compares a result with that of layer 1.
func expectWord(t *testing.T, name string, n api.Nat, e api.Errno, x int, f api.Errno) {
	t.Helper()
	if e != f || !same(n, small(x)) {
		t.Error(name, "is", text(n), e, "not", x, f)
	}
}

// P3.5
func TestNumbersOfWords(t *testing.T) {
	l := []int{0, 1, 2, 3, 4, 5, 6, 10, 11, 12, 36, 1<<31 - 1, 1 << 32, 1<<32 + 15, 3 * 5 * 7 * 11 * 13 * 17 * 19 * 23, 1 << 60, 1<<60 + 12345, api.MaxWord - 2, api.MaxWord - 1}
	for _, m := range l {
		for _, a := range l {
			for _, b := range l {
				r, s, z := small(a), small(b), small(m)
				name := names(r, s, z)
				n, e := natmod.Add(r, s, z)
				x, f := word.Add(a, b, m)
				expectWord(t, "Add"+name, n, e, x, f)
				n, e = natmod.Sub(r, s, z)
				x, f = word.Sub(a, b, m)
				expectWord(t, "Sub"+name, n, e, x, f)
				n, e = natmod.Mul(r, s, z)
				x, f = word.Mul(a, b, m)
				expectWord(t, "Mul"+name, n, e, x, f)
				n, e = natmod.Pow(r, s, z)
				x, f = word.Pow(a, b, m)
				expectWord(t, "Pow"+name, n, e, x, f)
			}
			n, e := natmod.Inverse(small(a), small(m))
			x, f := word.Inverse(a, m)
			expectWord(t, "Inverse"+names(small(a), small(m)), n, e, x, f)
			n, e = natmod.Gcd(small(a), small(m))
			expectWord(t, "Gcd"+names(small(a), small(m)), n, e, word.Gcd(a, m), api.OK)
		}
	}
}

// P3.5
func TestCrtOfRemainders(t *testing.T) {
	ok := must(t)
	back := func(x, p, q api.Nat) {
		t.Helper()
		_, a, _ := natural.Div(x, p)
		_, b, _ := natural.Div(x, q)
		if y := ok(natmod.Crt(a, p, b, q)); !same(x, y) {
			t.Error(text(x), text(p), text(q), text(y))
		}
	}
	for p := 1; p <= 12; p++ {
		for q := 1; q <= 12; q++ {
			if word.Gcd(p, q) != 1 {
				continue
			}
			for x := range p * q {
				back(small(x), small(p), small(q))
			}
		}
	}
	for _, c := range [][2]api.Nat{{power(512, -1), power(512, 1)}, {power(most-1, 0), nat(1)}, {nat(1), power(most, -1)}, {power(521, -1), power(127, -1)}, {power(64, 13), power(900, 0)}, {nat(3), power(1000, 0)}} {
		m := ok(natural.Mul(c[0], c[1]))
		for _, x := range residues(m) {
			back(x, c[0], c[1])
			back(x, c[1], c[0])
		}
	}
}

// guarded returns a copy of a number whose list goes on behind its end, with words that must remain.
func guarded(n api.Nat) (part api.Nat, whole []uint32) {
	whole = append(slices.Clone(n.W), 77, 78, 79)
	return api.Nat{W: whole[:len(n.W)]}, whole
}

// results returns what all functions make of some numbers.
func results(a, b, m api.Nat) []api.Nat {
	var l []api.Nat
	keep := func(n api.Nat, _ api.Errno) { l = append(l, n) }
	for _, f := range []func(a, b, m api.Nat) (api.Nat, api.Errno){natmod.Add, natmod.Sub, natmod.Mul, natmod.Pow} {
		keep(f(a, b, m))
		keep(f(a, nat(), m))
		keep(f(a, nat(1), m))
	}
	keep(natmod.Inverse(a, m))
	keep(natmod.Crt(a, m, nat(), nat(1)))
	keep(natmod.Crt(nat(), nat(1), a, m))
	keep(natmod.Crt(a, m, b, m))
	for _, x := range []api.Nat{a, b, m} {
		for _, y := range []api.Nat{nat(), a, b, m} {
			keep(natmod.Gcd(x, y))
			keep(natmod.Gcd(y, x))
		}
	}
	return l
}

// Results share no memory with arguments, and arguments are not modified.
func TestMemory(t *testing.T) {
	for _, c := range []api.Nat{nat(5), nat(full), power(64, 13), power(127, -1), power(320, -1)} {
		for _, x := range residues(c) {
			for _, y := range residues(c)[:5] {
				before := [][]uint32{append(slices.Clone(x.W), 77, 78, 79), append(slices.Clone(y.W), 77, 78, 79), append(slices.Clone(c.W), 77, 78, 79)}
				a, first := guarded(x)
				b, second := guarded(y)
				m, third := guarded(c)
				l := results(a, b, m)
				for _, n := range l {
					for i := range n.W {
						n.W[i] += 12345
					}
				}
				for i, w := range [][]uint32{first, second, third} {
					if !slices.Equal(w, before[i]) {
						t.Error("shared or modified argument", i, text(x), text(y), text(c))
					}
				}
			}
		}
	}
}
