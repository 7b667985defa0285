package prime_test

import (
	"math"
	"math/big"
	"math/rand/v2"
	"slices"
	"testing"

	"specie/api"
	"specie/prime"
)

const (
	largest = api.MaxWord - 1 // 2^61 - 1, which is a prime
	below   = 1048573         // the greatest prime below 2^20
	above   = 1048583         // the least prime above it
	second  = 1048589         // and the next one
)

// wild are ints that are tried as arguments of every kind.
var wild = []int{math.MinInt, math.MinInt + 1, -api.MaxWord, -largest, -11, -7, -3, -2, -1, 0, 1, 2, 3, 4, 6, 7, 9, largest - 2, largest - 1, largest, api.MaxWord, api.MaxWord + 1, math.MaxInt - 24, math.MaxInt - 1, math.MaxInt}

// strong are the least composite numbers that pass the test of Miller and Rabin for the first 1, 2, 3, 4, 5, 6, 7 or 8, and 9 to 11 primes.
var strong = []int{2047, 1373653, 25326001, 3215031751, 2152302898747, 3474749660383, 341550071728321, 3825123056546413051}

// isPrime is exact below 2^64.
func isPrime(n int) bool { return big.NewInt(int64(n)).ProbablyPrime(0) }

// leastFactors returns for each number below size its least factor above 1, by a sieve.
func leastFactors(size int) []int {
	l := make([]int, size)
	for p := 2; p < size; p++ {
		for n := p; n < size; n += p {
			if l[n] == 0 {
				l[n] = p
			}
		}
	}
	return l
}

// smallPrimes returns the primes below size.
func smallPrimes(size int) []int {
	var l []int
	for n, p := range leastFactors(size) {
		if n > 1 && p == n {
			l = append(l, n)
		}
	}
	return l
}

// random returns numbers of all lengths up to some bits, always the same ones.
func random(bits, each int) []int {
	source := rand.New(rand.NewPCG(1, 5))
	var l []int
	for n := range bits {
		for range each {
			l = append(l, 1<<n|source.IntN(1<<n))
		}
	}
	return l
}

// largePrimes returns primes of all lengths up to 61 bits for which p - 1 can be factored, and the greatest ones.
func largePrimes() []int {
	var l []int
	for _, n := range append(random(61, 3), largest) {
		for !isPrime(n) {
			n++
		}
		if _, e := prime.Factors(n - 1); e == api.OK {
			l = append(l, n)
		}
	}
	return l
}

// multiples returns numbers 1 + n k for even k, less than MaxWord: up to three that are prime, and up to three that are not.
func multiples(n int) (primes, composites []int) {
	for k := 2; len(primes) < 3 || len(composites) < 3; k += 2 {
		x := 1 + n*k
		switch {
		case x >= api.MaxWord:
			return primes, composites
		case isPrime(x) && len(primes) < 3:
			primes = append(primes, x)
		case !isPrime(x) && len(composites) < 3:
			composites = append(composites, x)
		}
	}
	return primes, composites
}

// P5.1
func TestSmallNumbers(t *testing.T) {
	for n, p := range leastFactors(300_000) {
		if prime.Is(n) != (n > 1 && p == n) || prime.Is(-n) {
			t.Error(n)
		}
	}
}

// P5.1: numbers of all lengths, those around powers of 2, and the greatest ints.
func TestNumbersOfAllLengths(t *testing.T) {
	l := append(random(63, 40), wild...)
	for n := range 63 {
		for x := -40; x <= 40; x++ {
			l = append(l, 1<<n+x)
		}
	}
	for x := range 300 {
		l = append(l, math.MaxInt-x)
	}
	for _, n := range l {
		if want := n > 1 && isPrime(n); prime.Is(n) != want {
			t.Error(n, "not", want)
		}
	}
	if !prime.Is(largest) || !prime.Is(math.MaxInt-24) || prime.Is(math.MaxInt) {
		t.Error("the greatest primes")
	}
}

// P5.1: composite numbers that resemble primes.
func TestPseudoprimes(t *testing.T) {
	l := append([]int{561, 1105, 1729, 2465, 341, 2821, 6601, 8911, 10585, 162401, 46657, 443372888629441}, strong...)
	for k := range 70_000 { // Carmichael numbers of three factors
		if isPrime(6*k+1) && isPrime(12*k+1) && isPrime(18*k+1) {
			l = append(l, (6*k+1)*(12*k+1)*(18*k+1))
		}
	}
	for _, k := range append(random(31, 100), 1<<31-1) { // squares, and products p (2 p - 1), which pass for many bases
		for k = max(k, 2); !isPrime(k); {
			k--
		}
		l = append(l, k*k)
		if p := 2*k - 1; p < math.MaxInt/k {
			l = append(l, k*p)
		}
	}
	for _, n := range l {
		if n < 4 || isPrime(n) {
			t.Fatal("no composite number:", n)
		}
		if prime.Is(n) {
			t.Error(n)
		}
	}
	if len(l) < 1000 {
		t.Error("only", len(l))
	}
}

// P5.1
func TestNext(t *testing.T) {
	l := smallPrimes(20_100)
	for n := range 20_000 {
		for l[0] <= n {
			l = l[1:]
		}
		if p, e := prime.Next(n); p != l[0] || e != api.OK {
			t.Error(n, p, e, "not", l[0])
		}
	}
	starts := random(60, 5)
	for n := 2; n <= 61; n++ {
		starts = append(starts, 1<<n-3, 1<<n-2)
	}
	for _, n := range append(starts, below, above, largest-1000, largest-31, largest-2, largest-1) {
		want := n + 1
		for !isPrime(want) {
			want++
		}
		if p, e := prime.Next(n); p != want || e != api.OK {
			t.Error(n, p, e, "not", want)
		}
	}
}

// P5.1
func TestErrorsOfNext(t *testing.T) {
	for _, n := range wild {
		p, e := prime.Next(n)
		if n < 0 || n > api.MaxWord-2 {
			if p != 0 || e != api.ErrRange {
				t.Error(n, p, e)
			}
		} else if p <= n || e != api.OK {
			t.Error(n, p, e)
		}
	}
}

// P5.2
func TestFactorsOfSmallNumbers(t *testing.T) {
	least := leastFactors(100_000)
	for n := 1; n < len(least); n++ {
		var want []int
		for x := n; x > 1; x /= least[x] {
			want = append(want, least[x])
		}
		if l, e := prime.Factors(n); !slices.Equal(l, want) || e != api.OK {
			t.Error(n, l, e, "not", want)
		}
	}
}

// factorsAre checks the factors of a product of primes, in any order.
func factorsAre(t *testing.T, primes ...int) {
	t.Helper()
	n := 1
	for _, p := range primes {
		n *= p
	}
	slices.Sort(primes)
	if l, e := prime.Factors(n); !slices.Equal(l, primes) || e != api.OK {
		t.Error(n, l, e, "not", primes)
	}
}

// P5.2: factors around 2^20 are told apart.
func TestFactorsOfLargeNumbers(t *testing.T) {
	for _, l := range [][]int{{}, {2}, {below}, {below, below}, {below, below, 2, 2, 2}, {below, above}, {below, above, 3, 5}, {above}, {above, 2}, {above, 7, 7, 2, 2}, {2, 1<<59 - 55}, {1<<31 - 1, 2}, {largest}, {1048571, below}} {
		factorsAre(t, l...)
	}
	factorsAre(t, slices.Repeat([]int{2}, 60)...)
	factorsAre(t, slices.Repeat([]int{2}, 20)...) // 2^20 itself
	factorsAre(t, slices.Repeat([]int{3}, 38)...)
	factorsAre(t, slices.Repeat([]int{below}, 3)...)
	source := rand.New(rand.NewPCG(2, 5))
	small := append(smallPrimes(1000), 65537, 524287, below)
	for range 300 {
		n, l := 1, []int(nil)
		for range 20 {
			if p := small[source.IntN(len(small))]; p < largest/n {
				n, l = n*p, append(l, p)
			}
		}
		factorsAre(t, l...)
		if p, e := prime.Next(source.IntN(1 << 61 / n)); e == api.OK && p < largest/n {
			factorsAre(t, append(l, p)...)
		}
	}
}

// P5.2: two factors above 2^20 are too many, whatever is divided out before.
func TestNumbersThatAreTooHard(t *testing.T) {
	for _, n := range []int{above * above, above * second, second * second, 1073741827 * 1073741831, 1<<31 - 1} {
		for _, k := range []int{1, 2, 4, 3 * 3, 2 * 3 * 5 * 7, 997 * 2, below, below - 2} {
			if n >= api.MaxWord/k || isPrime(n) {
				continue
			}
			if l, e := prime.Factors(n * k); len(l) != 0 || e != api.ErrBig {
				t.Error(n, k, l, e)
			}
		}
	}
}

// P5.2
func TestErrorsOfFactors(t *testing.T) {
	for _, n := range append(slices.Clone(wild), above*second*above) {
		l, e := prime.Factors(n)
		if n < 1 || n > api.MaxWord-1 {
			if len(l) != 0 || e != api.ErrRange {
				t.Error(n, l, e)
			}
		} else if e == api.ErrRange {
			t.Error(n, l, e)
		}
	}
}

// order counts the powers of r modulo p that are different, for an r from 1 on.
func order(r, p int) int {
	n := 1
	for x := r; x != 1%p; x = x * r % p {
		n++
	}
	return n
}

// P5.3
func TestRootsOfSmallPrimes(t *testing.T) {
	for _, p := range smallPrimes(4000) {
		want := 1
		for order(want, p) != p-1 {
			want++
		}
		if r, e := prime.Root(p); r != want || e != api.OK {
			t.Error(p, r, e, "not", want)
		}
	}
	for p, want := range map[int]int{2: 1, 3: 2, 5: 2, 7: 3, 41: 6, 71: 7, 191: 19, 409: 21, 5881: 31, 110881: 69, 760321: 73, 65537: 3, 1<<31 - 1: 7} {
		if r, e := prime.Root(p); r != want || e != api.OK {
			t.Error(p, r, e, "not", want)
		}
	}
}

// generates reports whether r is a primitive root of a prime p, by powers.
func generates(r, p int, factors []int) bool {
	for _, q := range factors {
		if x := new(big.Int).Exp(big.NewInt(int64(r)), big.NewInt(int64((p-1)/q)), big.NewInt(int64(p))); x.Cmp(big.NewInt(1)) == 0 {
			return false
		}
	}
	return true
}

// P5.3
func TestRootsOfLargePrimes(t *testing.T) {
	l := largePrimes()
	for _, p := range l {
		factors, _ := prime.Factors(p - 1)
		want := 1
		for !generates(want, p, factors) {
			want++
		}
		if r, e := prime.Root(p); r != want || e != api.OK {
			t.Error(p, r, e, "not", want)
		}
	}
	if len(l) < 100 || !slices.Contains(l, largest) {
		t.Error("only", l)
	}
}

// notPrime are arguments for which Root and Certify return ErrArg: integers that are no primes, and primes that are too great.
func notPrime() []int {
	l := append([]int{1 << 20, above * second, 561}, strong...)
	_, composites := multiples(above * second) // ErrArg comes before ErrBig
	l = append(l, composites...)
	for n := api.MaxWord; len(l) < 30; n++ {
		if isPrime(n) {
			l = append(l, n)
		}
	}
	for _, n := range wild {
		if n < 2 || n >= api.MaxWord || !isPrime(n) {
			l = append(l, n)
		}
	}
	return l
}

// P5.3
func TestErrorsOfRoot(t *testing.T) {
	for _, n := range notPrime() {
		if r, e := prime.Root(n); r != 0 || e != api.ErrArg {
			t.Error(n, r, e)
		}
	}
	for _, hard := range []int{above * second, above * above} {
		primes, _ := multiples(hard)
		for _, p := range primes {
			if r, e := prime.Root(p); r != 0 || e != api.ErrBig {
				t.Error(p, r, e)
			}
		}
		if len(primes) == 0 {
			t.Error("no prime for", hard)
		}
	}
}

// P5.6
func TestFactorsArePrimes(t *testing.T) {
	for _, n := range random(61, 6) {
		l, e := prime.Factors(n)
		if e != api.OK {
			continue
		}
		product := 1
		for _, p := range l {
			product *= p
			if !prime.Is(p) {
				t.Error(p, "of", n)
			}
		}
		if product != n || !slices.IsSorted(l) {
			t.Error(n, l)
		}
	}
}

// P5.6
func TestPowersOfRootsAreDifferent(t *testing.T) {
	for _, p := range smallPrimes(1500) {
		r, e := prime.Root(p)
		seen := make(map[int]bool)
		for x := 1 % p; !seen[x]; x = x * r % p {
			seen[x] = true
		}
		if e != api.OK || len(seen) != p-1 || seen[0] {
			t.Error(p, r, e)
		}
	}
}
