package natural_test

import (
	"math"
	"math/big"
	"math/rand/v2"
	"slices"
	"strconv"
	"testing"

	"specie/api"
	"specie/natural"
)

const (
	full = math.MaxUint32
	half = 1 << 31
	top  = 32 * api.MaxWords // valid numbers are less than 2^top
)

// nat returns the number with some words.
func nat(w ...uint32) api.Nat { return api.Nat{W: w} }

// filled returns n words, all of them x.
func filled(x uint32, n int) api.Nat { return nat(slices.Repeat([]uint32{x}, n)...) }

// power returns 2^n.
func power(n int) api.Nat {
	w := make([]uint32, n/32+1)
	w[n/32] = 1 << (n % 32)
	return api.Nat{W: w}
}

// greatest returns 2^top - 1.
func greatest() api.Nat { return filled(full, api.MaxWords) }

// invalid returns numbers that end with a zero word, or have too many words.
func invalid() []api.Nat {
	return []api.Nat{
		nat(0), nat(0, 0), nat(1, 0), nat(0, 1, 0), nat(full, full, 0),
		nat(append(greatest().W, 0)...), nat(append(greatest().W, 1)...), filled(0, api.MaxWords), filled(0, api.MaxWords+1), filled(1, api.MaxWords+1), filled(full, 3*api.MaxWords),
	}
}

// small returns all valid numbers of up to three words that are near the ends and the middle of their range: those for which digits of a quotient are estimated badly are among them.
func small() []api.Nat {
	words := []uint32{0, 1, 2, half - 1, half, half + 1, full - 1, full}
	l := []api.Nat{nat()}
	for _, x := range words {
		if x != 0 {
			l = append(l, nat(x))
		}
		for _, y := range words {
			if y != 0 {
				l = append(l, nat(x, y))
			}
			for _, z := range words {
				if z != 0 {
					l = append(l, nat(x, y, z))
				}
			}
		}
	}
	return l
}

// large returns numbers of all lengths: powers of 2 and their neighbors, and numbers without a pattern (always the same ones).
func large() []api.Nat {
	l := []api.Nat{nat(), nat(1), nat(full, 0, half), greatest()}
	source := rand.New(rand.NewPCG(1, 2))
	for _, n := range []int{1, 2, 3, 4, 7, 16, 31, 32, 33, 47, 62, 63, 64} {
		l = append(l, filled(full, n), power(32*n-1), nat(append(slices.Repeat([]uint32{0}, n-1), 3)...))
		for range 3 {
			w := make([]uint32, n)
			for i := range w {
				w[i] = source.Uint32()
			}
			w[n-1] |= 1
			l = append(l, api.Nat{W: w})
		}
	}
	return l
}

// value is the value of the words, valid or not.
func value(n api.Nat) *big.Int {
	x := new(big.Int)
	for i := len(n.W) - 1; i >= 0; i-- {
		x.Lsh(x, 32).Or(x, big.NewInt(int64(n.W[i])))
	}
	return x
}

func text(n api.Nat) string {
	if len(n.W) > api.MaxWords {
		return strconv.Itoa(len(n.W)) + " words"
	}
	return "0x" + value(n).Text(16)
}

func same(a, b api.Nat) bool { return slices.Equal(a.W, b.W) }

// expect compares a result with the value that it should have: ErrRange if that is negative, ErrBig if it is not less than 2^top.
func expect(t *testing.T, name string, got api.Nat, e api.Errno, want *big.Int) {
	t.Helper()
	f := api.OK
	switch {
	case want.Sign() < 0:
		f, want = api.ErrRange, new(big.Int)
	case want.BitLen() > top:
		f, want = api.ErrBig, new(big.Int)
	}
	if e != f || value(got).Cmp(want) != 0 || !natural.Valid(got) {
		t.Error(name, "is", text(got), e, "not", "0x"+want.Text(16), f)
	}
}

// fails checks an error, with which the number is zero.
func fails(t *testing.T, name string, got api.Nat, e, want api.Errno) {
	t.Helper()
	if e != want || len(got.W) != 0 {
		t.Error(name, "is", text(got), e, "not", want)
	}
}

// must returns the result of a call that may not fail.
func must(t *testing.T) func(api.Nat, api.Errno) api.Nat {
	return func(n api.Nat, e api.Errno) api.Nat {
		t.Helper()
		if e != api.OK {
			t.Fatal("error", e)
		}
		return n
	}
}

// P2.1
func TestValid(t *testing.T) {
	for _, n := range slices.Concat(small(), large(), []api.Nat{{W: []uint32{}}, nat(0, 1), nat(append(filled(0, api.MaxWords-1).W, 1)...)}) {
		if !natural.Valid(n) {
			t.Error("not valid", text(n))
		}
	}
	for i, n := range invalid() {
		if natural.Valid(n) {
			t.Error("valid", i, text(n))
		}
	}
}

// P2.1
func TestInts(t *testing.T) {
	for _, x := range []int{0, 1, 2, 12345, half - 1, half, half + 1, full - 1, full, full + 1, full + 2, 1 << 33, 1<<61 - 1, 1 << 62, 1<<62 + 1, math.MaxInt - 1, math.MaxInt} {
		n, e := natural.Of(x)
		expect(t, "Of "+strconv.Itoa(x), n, e, big.NewInt(int64(x)))
		if y, e := natural.Int(n); y != x || e != api.OK {
			t.Error("Int", x, y, e)
		}
	}
	if n := must(t)(natural.Of(1 << 32)); !slices.Equal(n.W, []uint32{0, 1}) {
		t.Error("the words of 2^32", n)
	}
	for _, x := range []int{-1, -2, -1 << 32, math.MinInt + 1, math.MinInt} {
		n, e := natural.Of(x)
		fails(t, "Of "+strconv.Itoa(x), n, e, api.ErrRange)
	}
	for _, n := range append(slices.Clone(small()), large()...) {
		want, f := 0, api.ErrBig
		if v := value(n); v.IsInt64() {
			want, f = int(v.Int64()), api.OK
		}
		if x, e := natural.Int(n); x != want || e != f {
			t.Error("Int", text(n), x, e, "not", want, f)
		}
	}
	for i, n := range invalid() {
		if x, e := natural.Int(n); x != 0 || e != api.ErrArg {
			t.Error("Int of no number", i, x, e)
		}
	}
}

// P2.2
func TestCompare(t *testing.T) {
	for _, l := range [][]api.Nat{small(), large()} {
		for _, a := range l {
			for _, b := range l {
				if c := natural.Compare(a, b); c != value(a).Cmp(value(b)) {
					t.Error("Compare", text(a), text(b), c)
				}
			}
		}
	}
	for i, a := range invalid() {
		for _, b := range slices.Concat(invalid(), []api.Nat{nat(), nat(1), nat(5, 6), greatest()}) {
			if c, d := natural.Compare(a, b), natural.Compare(b, a); c != 0 || d != 0 {
				t.Error("Compare no number", i, text(b), c, d)
			}
		}
	}
}

// P2.3
func TestSumsAndDifferences(t *testing.T) {
	for _, l := range [][]api.Nat{small(), large()} {
		for _, a := range l {
			for _, b := range l {
				x, y := value(a), value(b)
				n, e := natural.Add(a, b)
				expect(t, "Add "+text(a)+" "+text(b), n, e, new(big.Int).Add(x, y))
				n, e = natural.Sub(a, b)
				expect(t, "Sub "+text(a)+" "+text(b), n, e, new(big.Int).Sub(x, y))
			}
		}
	}
}

// P2.3
func TestProducts(t *testing.T) {
	for _, l := range [][]api.Nat{small(), large()} {
		for _, a := range l {
			for _, b := range l {
				n, e := natural.Mul(a, b)
				expect(t, "Mul "+text(a)+" "+text(b), n, e, new(big.Int).Mul(value(a), value(b)))
			}
		}
	}
	if n := must(t)(natural.Mul(nat(full, full), nat(full, full))); !slices.Equal(n.W, []uint32{1, 0, 4294967294, 4294967295}) {
		t.Error("2^64 - 1 times itself", n)
	}
}

// P2.3
func TestWhereResultsBecomeTooBig(t *testing.T) {
	ok := must(t)
	below := ok(natural.Sub(greatest(), nat(1)))
	if n := ok(natural.Add(below, nat(1))); !same(n, greatest()) {
		t.Error("the greatest sum", n)
	}
	if n := ok(natural.Mul(power(top-2), nat(2))); !same(n, power(top-1)) {
		t.Error("the greatest power of 2", n)
	}
	// 2^1024 - 1 times 2^1024 + 1 is 2^2048 - 1
	if n := ok(natural.Mul(filled(full, 32), ok(natural.Add(power(1024), nat(1))))); !same(n, greatest()) {
		t.Error("the greatest product", n)
	}
	for i, c := range []struct {
		f    func(a, b api.Nat) (api.Nat, api.Errno)
		a, b api.Nat
		e    api.Errno
	}{
		{natural.Add, greatest(), nat(1), api.ErrBig}, {natural.Add, nat(1), greatest(), api.ErrBig}, {natural.Add, power(top - 1), power(top - 1), api.ErrBig}, {natural.Add, greatest(), greatest(), api.ErrBig},
		{natural.Mul, power(top - 1), nat(2), api.ErrBig}, {natural.Mul, power(1024), power(1024), api.ErrBig}, {natural.Mul, greatest(), greatest(), api.ErrBig},
		{natural.Sub, nat(), nat(1), api.ErrRange}, {natural.Sub, nat(full, full), nat(0, 0, 1), api.ErrRange}, {natural.Sub, below, greatest(), api.ErrRange},
	} {
		n, e := c.f(c.a, c.b)
		fails(t, "case "+strconv.Itoa(i), n, e, c.e)
	}
}

// P2.4
func TestQuotients(t *testing.T) {
	for _, l := range [][]api.Nat{small(), large()} {
		for _, a := range l {
			for _, b := range l {
				q, r, e := natural.Div(a, b)
				name := "Div " + text(a) + " " + text(b)
				if len(b.W) == 0 {
					fails(t, name, q, e, api.ErrZero)
					fails(t, name, r, e, api.ErrZero)
					continue
				}
				x, y := new(big.Int).QuoRem(value(a), value(b), new(big.Int))
				expect(t, "quotient of "+name, q, e, x)
				expect(t, "remainder of "+name, r, e, y)
			}
		}
	}
	// 10^10 is 2 times 2^32 and 1410065408
	q, r, e := natural.Div(nat(1410065408, 2), nat(3))
	if e != api.OK || !slices.Equal(q.W, []uint32{3333333333}) || !slices.Equal(r.W, []uint32{1}) {
		t.Error("10^10 divided by 3", q, r, e)
	}
}

// P2.4: quotients that are just not reached, just reached, or just passed.
func TestQuotientsOfProducts(t *testing.T) {
	for _, b := range large() {
		for _, q := range large() {
			product := new(big.Int).Mul(value(q), value(b))
			if len(b.W) == 0 || len(q.W) == 0 || product.BitLen() > top {
				continue
			}
			exact := must(t)(natural.Mul(q, b))
			last := must(t)(natural.Sub(b, nat(1)))
			before := must(t)(natural.Sub(exact, nat(1)))
			if x, r, e := natural.Div(exact, b); e != api.OK || !same(x, q) || len(r.W) != 0 {
				t.Error("Div", text(exact), text(b), text(x), text(r), e)
			}
			if x, r, e := natural.Div(before, b); e != api.OK || !same(x, must(t)(natural.Sub(q, nat(1)))) || !same(r, last) {
				t.Error("Div", text(before), text(b), text(x), text(r), e)
			}
			if after, e := natural.Add(exact, last); e == api.OK {
				if x, r, e := natural.Div(after, b); e != api.OK || !same(x, q) || !same(r, last) {
					t.Error("Div", text(after), text(b), text(x), text(r), e)
				}
			}
		}
	}
}

// P2.5
func TestShift(t *testing.T) {
	places := []int{0, 1, 2, 5, 31, 32, 33, 63, 64, 65, 95, 96, 97, 1024, top - 33, top - 32, top - 1, top, top + 1, 9999, 10000}
	for _, a := range append(slices.Clone(small()), large()...) {
		for _, n := range places {
			x, e := natural.Shift(a, n)
			expect(t, "Shift "+text(a)+" "+strconv.Itoa(n), x, e, new(big.Int).Lsh(value(a), uint(n)))
			x, e = natural.Shift(a, -n)
			expect(t, "Shift "+text(a)+" "+strconv.Itoa(-n), x, e, new(big.Int).Rsh(value(a), uint(n)))
		}
	}
}

// P2.5
func TestEndsOfShifts(t *testing.T) {
	for _, n := range []int{10001, -10001, math.MaxInt, math.MaxInt - 1, math.MinInt, math.MinInt + 1, 1 << 32, -1 << 32} {
		for _, a := range []api.Nat{nat(), nat(1), greatest()} {
			x, e := natural.Shift(a, n)
			fails(t, "Shift "+text(a)+" "+strconv.Itoa(n), x, e, api.ErrRange)
		}
		x, e := natural.Shift(nat(1, 0), n)
		fails(t, "Shift of no number", x, e, api.ErrArg)
	}
	for _, n := range []int{-10000, 0, 1, 10000} {
		if x, e := natural.Shift(nat(), n); e != api.OK || len(x.W) != 0 {
			t.Error("Shift of 0", n, x, e)
		}
	}
	if x := must(t)(natural.Shift(nat(1), top-1)); !same(x, power(top-1)) {
		t.Error("the farthest shift of 1", x)
	}
	x, e := natural.Shift(nat(1), top)
	fails(t, "a shift that is too far", x, e, api.ErrBig)
}

// P2.6
func TestBits(t *testing.T) {
	for _, a := range append(slices.Clone(small()), large()...) {
		v := value(a)
		if got := natural.Bits(a); got != v.BitLen() {
			t.Error("Bits", text(a), got)
		}
		for i := range top + 70 {
			if got := natural.Bit(a, i); got != (v.Bit(i) == 1) {
				t.Error("Bit", text(a), i, got)
			}
		}
	}
	for _, a := range []api.Nat{nat(), nat(1), greatest()} {
		for _, i := range []int{-1, -31, -32, -33, -64, math.MinInt, top, 1 << 32, math.MaxInt} {
			if natural.Bit(a, i) {
				t.Error("Bit", text(a), i)
			}
		}
	}
	for i, a := range invalid() {
		if natural.Bits(a) != 0 {
			t.Error("Bits of no number", i, natural.Bits(a))
		}
		for j := -1; j < 3*top; j++ {
			if natural.Bit(a, j) {
				t.Error("Bit of no number", i, j)
			}
		}
	}
}

// P1, P2.3, P2.4, P2.5: what is no number comes before all other errors, and with it all results are zero.
func TestNumbersThatAreNotValid(t *testing.T) {
	others := append(invalid(), nat(), nat(1), nat(5, 6), greatest())
	for i, a := range invalid() {
		for j, b := range others {
			name := strconv.Itoa(i) + " " + strconv.Itoa(j)
			for k, f := range []func(a, b api.Nat) (api.Nat, api.Errno){natural.Add, natural.Sub, natural.Mul} {
				x, e := f(a, b)
				fails(t, strconv.Itoa(k)+" of "+name, x, e, api.ErrArg)
				x, e = f(b, a)
				fails(t, strconv.Itoa(k)+" backwards of "+name, x, e, api.ErrArg)
			}
			q, r, e := natural.Div(a, b)
			fails(t, "Div "+name, q, e, api.ErrArg)
			fails(t, "Div "+name, r, e, api.ErrArg)
			q, r, e = natural.Div(b, a)
			fails(t, "Div backwards "+name, q, e, api.ErrArg)
			fails(t, "Div backwards "+name, r, e, api.ErrArg)
		}
		for _, n := range []int{-10001, -10000, -1, 0, 1, 10000, 10001} {
			x, e := natural.Shift(a, n)
			fails(t, "Shift "+strconv.Itoa(i), x, e, api.ErrArg)
		}
	}
}

// guarded returns a copy of a number whose list goes on behind its end, with words that must remain.
func guarded(n api.Nat) (part api.Nat, whole []uint32) {
	whole = append(slices.Clone(n.W), 77, 78, 79)
	return api.Nat{W: whole[:len(n.W)]}, whole
}

// Results share no memory with arguments or with each other, and arguments are not modified.
func TestMemory(t *testing.T) {
	for _, c := range large() {
		for _, d := range []api.Nat{nat(), nat(1), nat(2), nat(3, 1), c, power(top - 1)} {
			a, first := guarded(c)
			b, second := guarded(d)
			q, r, _ := natural.Div(a, b)
			results := []api.Nat{q, r}
			keep := func(n api.Nat, _ api.Errno) { results = append(results, n) }
			keep(natural.Add(a, b))
			keep(natural.Sub(a, b))
			keep(natural.Mul(a, b))
			keep(natural.Shift(a, 0))
			keep(natural.Shift(a, 32))
			keep(natural.Shift(a, -32))
			for i, n := range results {
				before := slices.Clone(n.W)
				for _, w := range append(slices.Clone(results[:i]), a, b) {
					overwrite(w)
				}
				if !slices.Equal(n.W, before) {
					t.Error("shared memory of the result", i, text(c), text(d))
				}
				copy(first, c.W)
				copy(second, d.W)
				overwrite(n)
				if !slices.Equal(first, append(slices.Clone(c.W), 77, 78, 79)) || !slices.Equal(second, append(slices.Clone(d.W), 77, 78, 79)) {
					t.Error("shared or modified arguments of the result", i, text(c), text(d))
				}
			}
		}
	}
}

// overwrite changes all words of a number, within its length.
func overwrite(n api.Nat) {
	for i := range n.W {
		n.W[i] += 12345
	}
}

// P2.7
func TestLawsOfSumsAndProducts(t *testing.T) {
	ok := must(t)
	add := func(a, b api.Nat) api.Nat { return ok(natural.Add(a, b)) }
	mul := func(a, b api.Nat) api.Nat { return ok(natural.Mul(a, b)) }
	var l []api.Nat // no product of three is too big
	for _, a := range large() {
		if natural.Bits(a) <= 16*32 {
			l = append(l, a)
		}
	}
	for _, a := range l {
		if !same(add(a, nat()), a) || !same(mul(a, nat(1)), a) || len(mul(a, nat()).W) != 0 {
			t.Error("neutral elements", text(a))
		}
		for _, b := range l {
			if !same(add(a, b), add(b, a)) || !same(mul(a, b), mul(b, a)) || !same(ok(natural.Sub(add(a, b), b)), a) {
				t.Error("commutative laws, or a difference", text(a), text(b))
			}
			for _, c := range l {
				if !same(add(add(a, b), c), add(a, add(b, c))) || !same(mul(mul(a, b), c), mul(a, mul(b, c))) || !same(mul(a, add(b, c)), add(mul(a, b), mul(a, c))) {
					t.Error("associative and distributive laws", text(a), text(b), text(c))
				}
			}
		}
	}
}

// P2.7
func TestLawsOfQuotientsAndShifts(t *testing.T) {
	ok := must(t)
	for _, a := range append(slices.Clone(small()), large()...) {
		for _, b := range large() {
			q, r, e := natural.Div(a, b)
			if len(b.W) == 0 {
				continue
			}
			if e != api.OK || natural.Compare(r, b) != -1 || !same(a, ok(natural.Add(ok(natural.Mul(q, b)), r))) {
				t.Error("q b + r", text(a), text(b), text(q), text(r), e)
			}
		}
		for _, n := range []int{0, 1, 31, 32, 33, 500, top - 1} {
			if q, _, e := natural.Div(a, power(n)); e != api.OK || !same(q, ok(natural.Shift(a, -n))) {
				t.Error("a shift to the right", text(a), n, text(q), e)
			}
			p, e := natural.Mul(a, power(n))
			if s, f := natural.Shift(a, n); e != f || !same(p, s) {
				t.Error("a shift to the left", text(a), n, text(p), e, text(s), f)
			}
		}
	}
}

// P2.7
func TestNumbersOfInts(t *testing.T) {
	ok := must(t)
	l := []int{0, 1, 2, 3, 10, 1000, half - 1, half, 3037000499} // no product of two is greater than the greatest int
	of := func(x int) api.Nat { return ok(natural.Of(x)) }
	for _, x := range l {
		for _, y := range l {
			a, b := of(x), of(y)
			if !same(ok(natural.Add(a, b)), of(x+y)) || !same(ok(natural.Mul(a, b)), of(x*y)) {
				t.Error("sum or product", x, y)
			}
			if d, e := natural.Sub(a, b); x >= y && (e != api.OK || !same(d, of(x-y))) || x < y && e != api.ErrRange {
				t.Error("difference", x, y, d, e)
			}
			if (natural.Compare(a, b) < 0) != (x < y) || (natural.Compare(a, b) == 0) != (x == y) {
				t.Error("order", x, y)
			}
			if y == 0 {
				continue
			}
			if q, r, e := natural.Div(a, b); e != api.OK || !same(q, of(x/y)) || !same(r, of(x%y)) {
				t.Error("quotient", x, y, q, r, e)
			}
		}
	}
}
