package prime_test

import (
	"math"
	"math/big"
	"slices"
	"testing"

	"specie/api"
	"specie/prime"
)

// nat returns the number with some words.
func nat(w ...uint32) api.Nat { return api.Nat{W: w} }

// of returns the words of a value, even if they are too many.
func of(x *big.Int) api.Nat {
	var w []uint32
	for x = new(big.Int).Set(x); x.Sign() > 0; x.Rsh(x, 32) {
		w = append(w, uint32(new(big.Int).And(x, big.NewInt(math.MaxUint32)).Uint64()))
	}
	return api.Nat{W: w}
}

// number returns the number of an int that is not negative.
func number(x int) api.Nat { return of(big.NewInt(int64(x))) }

// value is the value of the words, valid or not.
func value(n api.Nat) *big.Int {
	x := new(big.Int)
	for i := len(n.W) - 1; i >= 0; i-- {
		x.Lsh(x, 32).Or(x, big.NewInt(int64(n.W[i])))
	}
	return x
}

// same compares the words, so that numbers that are not valid are not the same as valid ones.
func same(a, b api.Nat) bool { return slices.Equal(a.W, b.W) }

// power returns base^n.
func power(base, n int) *big.Int {
	return new(big.Int).Exp(big.NewInt(int64(base)), big.NewInt(int64(n)), nil)
}

// clone shares no memory with a certificate.
func clone(c api.Cert) api.Cert {
	d := api.Cert{N: nat(slices.Clone(c.N.W)...), Root: nat(slices.Clone(c.Root.W)...)}
	for _, part := range c.Parts {
		d.Parts = append(d.Parts, clone(part))
	}
	return d
}

func equal(c, d api.Cert) bool {
	return same(c.N, d.N) && same(c.Root, d.Root) && slices.EqualFunc(c.Parts, d.Parts, equal)
}

// all returns pointers to a certificate and to each one in it.
func all(c *api.Cert) []*api.Cert {
	l := []*api.Cert{c}
	for i := range c.Parts {
		l = append(l, all(&c.Parts[i])...)
	}
	return l
}

// certify returns the certificate of a prime.
func certify(t *testing.T, p int) api.Cert {
	t.Helper()
	c, e := prime.Certify(p)
	if e != api.OK {
		t.Fatal(p, e)
	}
	return c
}

// defined is the certificate of a prime by its definition.
func defined(t *testing.T, p int) api.Cert {
	t.Helper()
	r, e := prime.Root(p)
	factors, f := prime.Factors(p - 1)
	if e != api.OK || f != api.OK {
		t.Fatal(p, e, f)
	}
	c := api.Cert{N: number(p), Root: number(r)}
	for _, q := range factors {
		c.Parts = append(c.Parts, defined(t, q))
	}
	return c
}

// expect checks a verification, and that the certificate is not modified by it.
func expect(t *testing.T, name string, c api.Cert, size int, right bool) {
	t.Helper()
	before := clone(c)
	if got := prime.Verify(c); got != right {
		t.Error(name, "is right:", got)
	}
	if got := prime.Size(c); got != size {
		t.Error(name, "has the size", got, "not", size)
	}
	if !equal(c, before) {
		t.Error(name, "was modified")
	}
}

// P5.4, P5.6
func TestCertificatesOfPrimes(t *testing.T) {
	for _, p := range append(smallPrimes(3000), 65537, 1<<31-1, below, above) {
		if c := certify(t, p); !equal(c, defined(t, p)) || !prime.Verify(c) {
			t.Error(p, c)
		}
	}
	n := 0
	for _, p := range largePrimes() {
		c, e := prime.Certify(p)
		if e == api.ErrBig { // see below
			continue
		}
		if n++; e != api.OK || !equal(c, defined(t, p)) || !prime.Verify(c) {
			t.Error(p, c, e)
		}
	}
	if c := certify(t, largest); n < 80 || !equal(c, defined(t, largest)) {
		t.Error(n, c)
	}
}

// P5.4, P5.5
func TestExamplesOfCertificates(t *testing.T) {
	two := api.Cert{N: nat(2), Root: nat(1)}
	three := api.Cert{N: nat(3), Root: nat(2), Parts: []api.Cert{two}}
	five := api.Cert{N: nat(5), Root: nat(2), Parts: []api.Cert{two, two}}
	seven := api.Cert{N: nat(7), Root: nat(3), Parts: []api.Cert{two, three}}
	eleven := api.Cert{N: nat(11), Root: nat(2), Parts: []api.Cert{two, five}}
	for i, c := range []struct {
		p, size int
		want    api.Cert
	}{{2, 1, two}, {3, 2, three}, {5, 3, five}, {7, 4, seven}, {11, 5, eleven}, {23, 7, api.Cert{N: nat(23), Root: nat(5), Parts: []api.Cert{two, eleven}}}} {
		got := certify(t, c.p)
		if !equal(got, c.want) {
			t.Error(i, got)
		}
		expect(t, "an example", got, c.size, true)
	}
	if len(certify(t, 2).Parts) != 0 {
		t.Error("2 has parts")
	}
}

// P5.4
func TestErrorsOfCertify(t *testing.T) {
	for _, n := range notPrime() {
		if c, e := prime.Certify(n); !equal(c, api.Cert{}) || e != api.ErrArg {
			t.Error(n, c, e)
		}
	}
	primes, _ := multiples(above * second)
	for _, p := range primes {
		if c, e := prime.Certify(p); !equal(c, api.Cert{}) || e != api.ErrBig {
			t.Error(p, c, e)
		}
		deeper, _ := multiples(p) // they have a root, but no certificate: that of p is a part
		for _, q := range deeper {
			if r, e := prime.Root(q); r == 0 || e != api.OK {
				t.Error(q, r, e)
			}
			if c, e := prime.Certify(q); !equal(c, api.Cert{}) || e != api.ErrBig {
				t.Error(q, c, e)
			}
		}
		if len(deeper) == 0 {
			t.Error("no prime for", p)
		}
	}
	if len(primes) == 0 {
		t.Error("no primes")
	}
}

// increase adds 1 to each word of a certificate; to a word that two numbers share, more.
func increase(c *api.Cert) {
	for _, part := range all(c) {
		for _, n := range []api.Nat{part.N, part.Root} {
			for i := range n.W {
				n.W[i]++
			}
		}
	}
}

// The numbers of a certificate share no memory.
func TestMemory(t *testing.T) {
	for _, p := range []int{2, 17, 65537, 1<<31 - 1, largest} {
		c := certify(t, p)
		before := clone(c)
		increase(&c)
		again := clone(before)
		increase(&again)
		if !equal(c, again) {
			t.Error(p, "shares memory")
		}
		if !equal(certify(t, p), before) {
			t.Error(p, "is kept")
		}
	}
}

// partitions returns all ascending lists of integers from least on that have the product n.
func partitions(n, least int) [][]int {
	if n == 1 {
		return [][]int{nil}
	}
	var l [][]int
	for d := least; d <= n; d++ {
		if n%d != 0 {
			continue
		}
		for _, rest := range partitions(n/d, d) {
			l = append(l, append([]int{d}, rest...))
		}
	}
	return l
}

// claimed returns a certificate for any number: for a composite one a false one, with the same root and the certificates of its factors.
func claimed(t *testing.T, n int) api.Cert {
	if n > 1 && isPrime(n) {
		return certify(t, n)
	}
	c := api.Cert{N: number(n), Root: nat(1)}
	if n > 1 {
		factors, _ := prime.Factors(n - 1)
		for _, p := range factors {
			c.Parts = append(c.Parts, certify(t, p))
		}
	}
	return c
}

// P5.5: all roots, and all products, right ones and others, for all small numbers.
func TestAllSmallCertificates(t *testing.T) {
	for n := range 62 {
		var lists [][]int
		for product := max(n-2, 1); product <= n; product++ {
			for _, l := range partitions(product, 2) {
				backwards := slices.Clone(l)
				slices.Reverse(backwards)
				lists = append(lists, l, backwards, append([]int{1}, l...))
			}
		}
		factors, _ := prime.Factors(n - 1)
		rights := 0
		for _, list := range lists {
			c := api.Cert{N: number(n)}
			for _, p := range list {
				c.Parts = append(c.Parts, claimed(t, p))
			}
			for r := range n + 3 {
				c.Root = number(r)
				right := n > 1 && isPrime(n) && slices.Equal(list, factors) && 1 <= r && r < n && order(r, n) == n-1
				if got := prime.Verify(c); got != right {
					t.Error(n, r, list, got)
				}
				if right {
					rights++
				}
			}
		}
		if n > 1 && (rights > 0) != isPrime(n) {
			t.Error(n, "has", rights)
		}
	}
}

// P5.5: other roots of large primes, with their orders.
func TestRootsOfCertificates(t *testing.T) {
	for _, p := range []int{23, 191, 65537, 1<<31 - 1, largest} {
		c := certify(t, p)
		factors, _ := prime.Factors(p - 1)
		for r := 1; r < min(p, 60); r++ {
			for _, x := range []int{r, p - r} {
				c.Root = number(x)
				expect(t, "a root", c, prime.Size(c), generates(x, p, factors))
			}
		}
		for _, root := range []api.Nat{nat(), number(p), number(p + 3), of(power(2, 1024)), of(power(2, 3000))} {
			c.Root = root
			expect(t, "no root", c, prime.Size(c), false)
		}
	}
}

// change is an alteration of one certificate, after which it is not right.
type change struct {
	name  string
	alter func(c *api.Cert)
}

func changes() []change {
	two := api.Cert{N: nat(2), Root: nat(1)}
	greatest := nat(slices.Repeat([]uint32{math.MaxUint32}, api.MaxWords)...)
	return []change{
		{"no number", func(c *api.Cert) { c.N = nat() }},
		{"the number 1", func(c *api.Cert) { c.N = nat(1) }},
		{"a number that ends with 0", func(c *api.Cert) { c.N.W = append(c.N.W, 0) }},
		{"a number of too many words", func(c *api.Cert) { c.N.W = append(c.N.W, make([]uint32, 80)...); c.N.W[70] = 1 }},
		{"the least number of too many bits", func(c *api.Cert) { c.N = of(power(2, 1024)) }},
		{"a number of too many bits", func(c *api.Cert) { c.N.W = append(c.N.W, greatest.W[:40]...) }},
		{"the greatest number", func(c *api.Cert) { c.N = greatest }},
		{"the next number", func(c *api.Cert) { c.N.W[0]++ }},
		{"the number before", func(c *api.Cert) { c.N.W[0]-- }},
		{"a number with further words", func(c *api.Cert) { c.N.W = append(c.N.W, 0, 1) }},
		{"no root", func(c *api.Cert) { c.Root = nat() }},
		{"the root N", func(c *api.Cert) { c.Root = nat(slices.Clone(c.N.W)...) }},
		{"a root that is greater by N", func(c *api.Cert) { c.Root = of(new(big.Int).Add(value(c.Root), value(c.N))) }},
		{"a root that ends with 0", func(c *api.Cert) { c.Root.W = append(c.Root.W, 0) }},
		{"a root of too many words", func(c *api.Cert) { c.Root.W = make([]uint32, 99) }},
		{"one more part", func(c *api.Cert) { c.Parts = append(c.Parts, two) }},
		{"a first part more", func(c *api.Cert) { c.Parts = append([]api.Cert{two}, c.Parts...) }},
		{"a part for 1", func(c *api.Cert) { c.Parts = append([]api.Cert{{N: nat(1), Root: nat(1)}}, c.Parts...) }},
		{"a part that is zero", func(c *api.Cert) { c.Parts = append(c.Parts, api.Cert{}) }},
		{"a first part that is zero", func(c *api.Cert) { c.Parts = append([]api.Cert{{}}, c.Parts...) }},
		{"a part that is too great", func(c *api.Cert) { c.Parts = append(c.Parts, api.Cert{N: greatest, Root: nat(1)}) }},
		{"a part with 2, 0", func(c *api.Cert) { c.Parts = append(c.Parts, api.Cert{N: nat(2, 0), Root: nat(1)}) }},
	}
}

// P5.5: everything in a certificate matters, however deep it lies.
func TestAlteredCertificates(t *testing.T) {
	for _, p := range []int{2, 3, 7, 23, 47, 719, 2879, 1<<31 - 1, largest} {
		good := certify(t, p)
		places := len(all(&good))
		for i := range places {
			for _, x := range changes() {
				c := clone(good)
				x.alter(all(&c)[i])
				if prime.Verify(c) {
					t.Error(p, i, x.name)
				}
			}
			c := clone(good)
			part := all(&c)[i]
			if len(part.Parts) == 0 {
				continue
			}
			part.Parts = part.Parts[1:]
			if prime.Verify(c) {
				t.Error(p, i, "without the first part")
			}
			c = clone(good)
			part = all(&c)[i]
			slices.Reverse(part.Parts)
			if !same(part.Parts[0].N, part.Parts[len(part.Parts)-1].N) && prime.Verify(c) {
				t.Error(p, i, "backwards")
			}
			if n := value(part.N); n.Cmp(big.NewInt(3)) > 0 { // -1 has the order 2
				c = clone(good)
				all(&c)[i].Root = of(n.Sub(n, big.NewInt(1)))
				if prime.Verify(c) {
					t.Error(p, i, "with the root -1")
				}
			}
		}
	}
}

// P5.5: claims about composite numbers, and with parts that are no primes.
func TestFalseCertificates(t *testing.T) {
	for _, n := range append([]int{4, 6, 9, 15, 21, 25, 91, 341, 561, 1105, 1729, 2465, 2821, 46657, 65536, 1<<32 + 1}, strong...) {
		factors, e := prime.Factors(n - 1)
		if e != api.OK {
			continue
		}
		c := api.Cert{N: number(n)}
		for _, p := range factors {
			c.Parts = append(c.Parts, certify(t, p))
		}
		for r := range min(n+2, 100) {
			for _, x := range []int{r, n - r} {
				c.Root = number(max(x, 0))
				expect(t, "a composite number", c, prime.Size(c), false)
			}
		}
	}
	// modulo 15, -1 has the order 2: only the power for 7 shows that it is no root
	c := api.Cert{N: nat(15), Root: nat(14), Parts: []api.Cert{certify(t, 2), certify(t, 7)}}
	expect(t, "15", c, 6, false)
	// only the part for 4 is not right: 2 is a primitive root of 13 and of 5
	four := api.Cert{N: nat(4), Root: nat(3), Parts: []api.Cert{certify(t, 3)}}
	expect(t, "13 with the part 4", api.Cert{N: nat(13), Root: nat(2), Parts: []api.Cert{certify(t, 3), four}}, 6, false)
	expect(t, "5 with the part 4", api.Cert{N: nat(5), Root: nat(2), Parts: []api.Cert{four}}, 4, false)
	expect(t, "4", four, 3, false)
}

// smooth returns a certificate for 2^a 3^b 5^c + 1, with the least root that passes.
func smooth(t *testing.T, a, b, c int) api.Cert {
	t.Helper()
	all := power(2, a)
	all.Mul(all, power(3, b)).Mul(all, power(5, c))
	n := new(big.Int).Add(all, big.NewInt(1))
	x := api.Cert{N: of(n)}
	for p, k := range map[int]int{2: a, 3: b, 5: c} {
		for range k {
			x.Parts = append(x.Parts, certify(t, p))
		}
	}
	slices.SortFunc(x.Parts, func(c, d api.Cert) int { return value(c.N).Cmp(value(d.N)) })
	for r := int64(2); r < 1000; r++ {
		passes := true
		for _, p := range []int64{2, 3, 5} {
			if rest := new(big.Int).Rem(all, big.NewInt(p)); rest.Sign() == 0 {
				q := new(big.Int).Exp(big.NewInt(r), new(big.Int).Div(all, big.NewInt(p)), n)
				passes = passes && q.Cmp(big.NewInt(1)) != 0
			}
		}
		if passes {
			x.Root = of(big.NewInt(r))
			return x
		}
	}
	t.Fatal("no root for", a, b, c)
	return x
}

// P5.5: up to the greatest size. (A prime that is greater than 2^1000 has a greater certificate.)
func TestGreatCertificates(t *testing.T) {
	for _, x := range [][4]int{{4, 0, 0, 5}, {16, 0, 0, 17}, {6, 4, 0, 0}, {976, 11, 0, 999}, {964, 16, 1, 1000}, {630, 183, 1, 1000}, {977, 8, 2, 1000}, {929, 31, 3, 1001}, {651, 170, 3, 1001}, {965, 12, 4, 1002}} {
		c := smooth(t, x[0], x[1], x[2])
		n := value(c.N)
		size := 1 + x[0] + 2*x[1] + 3*x[2]
		if x[3] != 0 && (size != x[3] || !n.ProbablyPrime(5)) {
			t.Fatal(x)
		}
		if size > 1000 {
			expect(t, "a certificate that is too great", c, 0, false)
			continue
		}
		expect(t, "a great certificate", c, size, n.ProbablyPrime(5))
		last := &c.Parts[len(c.Parts)-1]
		last.Root = nat()
		expect(t, "a great certificate that is not right", c, size, false)
	}
}

// P5.5: certificates that are wide, or deep.
func TestSizes(t *testing.T) {
	two := certify(t, 2)
	for _, n := range []int{0, 1, 2, 500, 998, 999, 1000, 1001, 5000, 1_000_000} {
		want := n + 1
		if want > 1000 {
			want = 0
		}
		expect(t, "a wide certificate", api.Cert{N: nat(3), Root: nat(2), Parts: slices.Repeat([]api.Cert{two}, n)}, want, n == 1)
		if got := prime.Size(api.Cert{Parts: make([]api.Cert, n)}); got != want {
			t.Error("zero parts", n, got)
		}
		var deep api.Cert
		for range n {
			deep = api.Cert{Parts: []api.Cert{deep}}
		}
		if got := prime.Size(deep); got != want || prime.Verify(deep) {
			t.Error("a deep certificate", n, got)
		}
	}
	for last := 247; last <= 250; last++ { // four times 250, or one less or more, below one
		c := api.Cert{}
		for _, n := range []int{249, 249, 249, last} {
			c.Parts = append(c.Parts, api.Cert{Parts: make([]api.Cert, n-1)})
		}
		want := 1 + 3*249 + last
		if got := prime.Size(c); got != want {
			t.Error("four parts", want, got)
		}
		c.Parts = append(c.Parts, api.Cert{Parts: make([]api.Cert, 999-want)})
		if got := prime.Size(c); got != 1000 {
			t.Error("five parts", got)
		}
		c.Parts = append(c.Parts, api.Cert{})
		if got := prime.Size(c); got != 0 {
			t.Error("six parts", got)
		}
	}
	if prime.Size(api.Cert{}) != 1 || prime.Verify(api.Cert{}) {
		t.Error("zero")
	}
}

// P1: slices may contain themselves.
func TestCertificatesWithoutEnd(t *testing.T) {
	for _, n := range []int{1, 2, 3, 1000} {
		parts := make([]api.Cert, n)
		for i := range parts {
			parts[i] = api.Cert{N: nat(2), Root: nat(1), Parts: parts}
		}
		for _, c := range []api.Cert{parts[0], {N: nat(3), Root: nat(2), Parts: parts}} {
			if prime.Verify(c) || prime.Size(c) != 0 {
				t.Error(n)
			}
		}
	}
}

// P5.6
func TestNumbersOfRightCertificatesArePrimes(t *testing.T) {
	for n := 2; n < 2000; n++ {
		c := claimed(t, n)
		for r := 1; r < min(n, 20); r++ {
			c.Root = number(r)
			if prime.Verify(c) && !isPrime(n) {
				t.Error(n, r)
			}
		}
	}
}
