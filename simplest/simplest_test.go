package simplest

import (
	"math"
	"math/big"
	"math/rand"
	"testing"

	"tscodec/api"
	"tscodec/ratio"
	"tscodec/wide"
)

const (
	least    = math.MinInt64
	greatest = math.MaxInt64
	full     = math.MaxUint64 // a word with all bits
)

// none is what stands beside false, and is itself no valid fraction.
var none = api.Ratio{}

// The greatest absolute value in a valid fraction is 2^127 - 1.
var (
	one     = wide.Of(1)
	two     = wide.Of(2)
	most    = plus(full, 1<<63-1)
	below   = plus(full-1, 1<<63-1)
	tooMuch = plus(0, 1<<63)
)

// plus returns a Wide with the words of an absolute value, the least significant one first.
func plus(mag ...uint64) api.Wide {
	var a api.Wide
	copy(a.Mag[:], mag)
	return a
}

// over returns the struct of two small numbers, in lowest terms or not.
func over(num, den int64) api.Ratio {
	return api.Ratio{Num: wide.Of(num), Den: wide.Of(den)}
}

// mirror returns -a.
func mirror(a api.Ratio) api.Ratio {
	return api.Ratio{Num: wide.Neg(a.Num), Den: a.Den}
}

// number returns the number of a valid Wide without bounds.
func number(a api.Wide) *big.Int {
	x := new(big.Int)
	for i := len(a.Mag) - 1; i >= 0; i-- {
		x.Lsh(x, 64)
		x.Or(x, new(big.Int).SetUint64(a.Mag[i]))
	}
	if a.Neg {
		x.Neg(x)
	}
	return x
}

// wideOf returns the Wide of a number of at most 256 bits.
func wideOf(x *big.Int) api.Wide {
	a := api.Wide{Neg: x.Sign() < 0}
	rest, word := new(big.Int).Abs(x), new(big.Int).SetUint64(full)
	for i := range a.Mag {
		a.Mag[i] = new(big.Int).And(rest, word).Uint64()
		rest.Rsh(rest, 64)
	}
	return a
}

// rational returns the number of a valid fraction without bounds.
func rational(a api.Ratio) *big.Rat {
	return new(big.Rat).SetFrac(number(a.Num), number(a.Den))
}

// small are all fractions with denominators of at most 6 from -3 to 3.
func small() []api.Ratio {
	var list []api.Ratio
	for den := int64(1); den <= 6; den++ {
		for num := -3 * den; num <= 3*den; num++ {
			if a := over(num, den); ratio.Valid(a) {
				list = append(list, a)
			}
		}
	}
	return list
}

// extreme are valid fractions at the limits, with both signs.
func extreme() []api.Ratio {
	var list []api.Ratio
	half := plus(0, 1<<62)
	for _, a := range []api.Ratio{
		{Num: most, Den: one}, {Num: below, Den: one}, {Num: most, Den: two}, {Num: half, Den: one},
		{Num: one, Den: most}, {Num: one, Den: below}, {Num: two, Den: most}, {Num: one, Den: half},
		{Num: most, Den: below}, {Num: below, Den: most}, {Num: most, Den: half}, {Num: half, Den: most},
		over(greatest, 1), over(1, greatest), over(greatest, 2), over(2, greatest), over(greatest, greatest-1),
	} {
		list = append(list, a, mirror(a))
	}
	return append(list, over(least, 1), over(least, 3), over(0, 1))
}

// randomFraction returns a valid fraction of at most as many bits, often a short one.
func randomFraction(random *rand.Rand, bits int) api.Ratio {
	part := func() api.Wide {
		return wideOf(new(big.Int).Rand(random, new(big.Int).Lsh(big.NewInt(1), uint(1+random.Intn(bits)))))
	}
	for {
		num, den := part(), part()
		if random.Intn(2) == 0 {
			num = wide.Neg(num)
		}
		if a, ok := ratio.Make(num, den); ok {
			return a
		}
	}
}

// near returns a valid fraction that is a little greater than a, or a itself.
func near(random *rand.Rand, a api.Ratio) api.Ratio {
	size := new(big.Int).Lsh(big.NewInt(1), uint(random.Intn(126)))
	step := new(big.Rat).SetFrac(big.NewInt(1), new(big.Int).Add(size, big.NewInt(random.Int63n(9))))
	sum := step.Add(step, rational(a))
	if b, ok := ratio.Make(wideOf(sum.Num()), wideOf(sum.Denom())); ok {
		return b
	}
	// The sum has too many digits. Cutting off the lowest ones of its numerator and its denominator keeps it near.
	cut := uint(max(sum.Num().BitLen(), sum.Denom().BitLen()) - 127)
	num, den := new(big.Int).Rsh(sum.Num(), cut), new(big.Int).Rsh(sum.Denom(), cut)
	if b, ok := ratio.Make(wideOf(num), wideOf(den)); ok && ratio.Compare(a, b) <= 0 {
		return b
	}
	return a
}

// intervals calls f for intervals of extreme fractions and for random ones, from wide to very narrow.
func intervals(f func(lo, hi api.Ratio)) {
	list := extreme()
	for _, lo := range list {
		for _, hi := range list {
			if ratio.Compare(lo, hi) <= 0 {
				f(lo, hi)
			}
		}
	}
	random := rand.New(rand.NewSource(4))
	for range 3000 {
		lo, hi := randomFraction(random, 127), randomFraction(random, 127)
		if ratio.Compare(lo, hi) > 0 {
			lo, hi = hi, lo
		}
		f(lo, hi)
		f(lo, near(random, lo))
		f(mirror(near(random, lo)), mirror(lo))
		f(hi, hi)
	}
}

// invalid are fractions that break one or more of the conditions.
func invalid() []api.Ratio {
	negative := api.Wide{Neg: true} // the one Wide that is not valid
	return []api.Ratio{
		none,
		over(1, 0),
		over(-1, 0),
		over(2, 4),
		over(-2, 4),
		over(7, 7),
		over(0, 2),
		over(0, -1),
		over(1, -1),
		over(-3, -2),
		{Num: negative, Den: one},
		{Num: one, Den: negative},
		{Num: tooMuch, Den: one},
		{Num: wide.Neg(tooMuch), Den: one},
		{Num: one, Den: tooMuch},
		{Num: one, Den: wide.Neg(most)},
		{Num: most, Den: most},
		{Num: plus(full, full, full, full), Den: plus(full-1, full, full, full)},
	}
}

// Promise 4.1.

func TestSimpler(t *testing.T) {
	for _, r := range []struct {
		a, b api.Ratio
		want bool
	}{
		// The denominator decides first.
		{over(1, 1), over(1, 2), true},
		{over(1, 2), over(1, 1), false},
		{over(100, 1), over(1, 2), true},
		{over(-100, 1), over(1, 2), true},
		{over(1, 2), over(100, 1), false},
		{over(1, 3), over(1, 2), false},
		{over(5, 2), over(1, 3), true},
		{over(greatest, 1), over(1, 2), true},
		// Then the numerator without its sign.
		{over(0, 1), over(1, 1), true},
		{over(0, 1), over(-1, 1), true},
		{over(1, 1), over(0, 1), false},
		{over(-1, 1), over(0, 1), false},
		{over(1, 2), over(3, 2), true},
		{over(3, 2), over(1, 2), false},
		{over(-1, 2), over(3, 2), true},
		{over(1, 2), over(-3, 2), true},
		{over(-3, 2), over(1, 2), false},
		{over(-3, 2), over(-1, 2), false},
		{over(-1, 2), over(-3, 2), true},
		{over(greatest, 1), over(least, 1), true},
		{over(least, 1), over(greatest, 1), false},
		// None of two is simpler if they differ at most by the sign.
		{over(0, 1), over(0, 1), false},
		{over(5, 7), over(5, 7), false},
		{over(-1, 2), over(1, 2), false},
		{over(1, 2), over(-1, 2), false},
		// Numbers of several words.
		{api.Ratio{Num: most, Den: one}, over(1, 2), true},
		{over(1, 2), api.Ratio{Num: most, Den: one}, false},
		{api.Ratio{Num: below, Den: one}, api.Ratio{Num: most, Den: one}, true},
		{api.Ratio{Num: wide.Neg(most), Den: one}, api.Ratio{Num: below, Den: one}, false},
		{api.Ratio{Num: one, Den: below}, api.Ratio{Num: one, Den: most}, true},
		{api.Ratio{Num: one, Den: plus(0, 1)}, api.Ratio{Num: one, Den: plus(full)}, false},
		{api.Ratio{Num: one, Den: most}, api.Ratio{Num: one, Den: most}, false},
	} {
		if got := Simpler(r.a, r.b); got != r.want {
			t.Errorf("Simpler(%v, %v) = %t", r.a, r.b, got)
		}
	}
}

func TestSimplerOfAll(t *testing.T) {
	list := append(small(), extreme()...)
	random := rand.New(rand.NewSource(41))
	for range 100 {
		list = append(list, randomFraction(random, 127))
	}
	for _, a := range list {
		for _, b := range list {
			order := number(a.Den).Cmp(number(b.Den))
			if order == 0 {
				order = number(a.Num).CmpAbs(number(b.Num))
			}
			if got := Simpler(a, b); got != (order < 0) {
				t.Errorf("Simpler(%v, %v) = %t", a, b, got)
			}
		}
	}
}

func TestSimplerOfInvalid(t *testing.T) {
	for _, bad := range invalid() {
		for _, a := range append(append(small(), extreme()...), invalid()...) {
			if Simpler(bad, a) {
				t.Errorf("%v is simpler than %v", bad, a)
			}
			if Simpler(a, bad) {
				t.Errorf("%v is simpler than %v", a, bad)
			}
		}
	}
}

// Promise 4.2.

func TestBetween(t *testing.T) {
	const n = 1 << 62
	for _, r := range []struct {
		lo, hi, want api.Ratio
	}{
		{over(1, 3), over(1, 2), over(1, 2)},
		{over(-7, 5), over(-4, 3), over(-4, 3)},
		{over(157, 50), over(63, 20), over(22, 7)},
		{over(-63, 20), over(-157, 50), over(-22, 7)},
		{over(2, 5), over(3, 7), over(2, 5)},
		{over(3, 10), over(2, 5), over(1, 3)},
		{over(31, 100), over(32, 25), over(1, 1)},
		{over(5, 12), over(12, 25), over(3, 7)},
		{over(-12, 25), over(-5, 12), over(-3, 7)},
		// Both ends belong to the interval.
		{over(1, 2), over(2, 3), over(1, 2)},
		{over(2, 3), over(3, 4), over(2, 3)},
		{over(4, 5), over(5, 6), over(4, 5)},
		{over(5, 6), over(1, 1), over(1, 1)},
		{over(-1, 1), over(-5, 6), over(-1, 1)},
		{over(3, 2), over(2, 1), over(2, 1)},
		{over(2, 1), over(5, 2), over(2, 1)},
		// A single fraction.
		{over(0, 1), over(0, 1), over(0, 1)},
		{over(7, 1), over(7, 1), over(7, 1)},
		{over(355, 113), over(355, 113), over(355, 113)},
		{over(-355, 113), over(-355, 113), over(-355, 113)},
		// 0, inside and at the ends.
		{over(-1, 2), over(1, 3), over(0, 1)},
		{over(0, 1), over(1, 3), over(0, 1)},
		{over(-1, 3), over(0, 1), over(0, 1)},
		{over(least, 1), over(greatest, 1), over(0, 1)},
		{over(-1, greatest), over(1, greatest), over(0, 1)},
		// Integers: the one next to 0.
		{over(1, 3), over(9, 1), over(1, 1)},
		{over(-9, 1), over(-1, 3), over(-1, 1)},
		{over(5, 2), over(99, 10), over(3, 1)},
		{over(-99, 10), over(-5, 2), over(-3, 1)},
		{over(3, 1), over(99, 10), over(3, 1)},
		{over(-99, 10), over(-3, 1), over(-3, 1)},
		{over(least, 1), over(-greatest, 1), over(-greatest, 1)},
		// Large numbers.
		{over(n-1, n), over(n, n+1), over(n-1, n)},
		{over(n, n-1), over(n-1, n-2), over(n-1, n-2)},
		{over(1, n), over(1, n-1), over(1, n-1)},
		{api.Ratio{Num: one, Den: most}, api.Ratio{Num: one, Den: below}, api.Ratio{Num: one, Den: below}},
		{api.Ratio{Num: one, Den: most}, api.Ratio{Num: most, Den: one}, over(1, 1)},
		{api.Ratio{Num: below, Den: one}, api.Ratio{Num: most, Den: one}, api.Ratio{Num: below, Den: one}},
		{api.Ratio{Num: most, Den: below}, api.Ratio{Num: most, Den: below}, api.Ratio{Num: most, Den: below}},
		{api.Ratio{Num: below, Den: most}, over(1, 1), over(1, 1)},
		{api.Ratio{Num: most, Den: two}, api.Ratio{Num: most, Den: one}, api.Ratio{Num: plus(0, 1<<62), Den: one}},
	} {
		if got, ok := Between(r.lo, r.hi); got != r.want || !ok {
			t.Errorf("Between(%v, %v) = %v, %t, not %v", r.lo, r.hi, got, ok, r.want)
		}
	}
}

func TestBetweenWithoutResult(t *testing.T) {
	reject := func(lo, hi api.Ratio) {
		if got, ok := Between(lo, hi); got != none || ok {
			t.Errorf("Between(%v, %v) = %v, %t", lo, hi, got, ok)
		}
	}
	valid := append(small(), extreme()...)
	for _, bad := range invalid() {
		for _, a := range append(valid, invalid()...) {
			reject(bad, a)
			reject(a, bad)
		}
	}
	for _, lo := range valid {
		for _, hi := range valid {
			if rational(lo).Cmp(rational(hi)) > 0 {
				reject(lo, hi)
			}
		}
	}
}

// TestBetweenOfSmall compares with all fractions of an interval whose denominators are at most those of its ends.
func TestBetweenOfSmall(t *testing.T) {
	list := append(small(), over(31, 10), over(-31, 10), over(1, 11), over(-1, 11), over(16, 11), over(-22, 7))
	for _, lo := range list {
		for _, hi := range list {
			if ratio.Compare(lo, hi) > 0 {
				continue
			}
			got, ok := Between(lo, hi)
			if !ok || !ratio.Valid(got) {
				t.Fatalf("Between(%v, %v) = %v, %t", lo, hi, got, ok)
			}
			if best := unbeaten(lo, hi); len(best) != 1 || best[0] != got {
				t.Errorf("Between(%v, %v) = %v, not one of %v", lo, hi, got, best)
			}
		}
	}
}

// unbeaten returns the fractions from lo to hi than which no other one of them is simpler.
func unbeaten(lo, hi api.Ratio) []api.Ratio {
	limit, _ := wide.Int64(lo.Den)
	var inside, best []api.Ratio
	for den := int64(1); den <= limit; den++ {
		for num := -4 * den; num <= 4*den; num++ {
			a := over(num, den)
			if ratio.Valid(a) && ratio.Compare(lo, a) <= 0 && ratio.Compare(a, hi) <= 0 {
				inside = append(inside, a)
			}
		}
	}
	for _, a := range inside {
		beaten := false
		for _, b := range inside {
			beaten = beaten || Simpler(b, a)
		}
		if !beaten {
			best = append(best, a)
		}
	}
	return best
}

// TestBetweenOfAll proves the result of each interval without another search.
func TestBetweenOfAll(t *testing.T) {
	intervals(func(lo, hi api.Ratio) {
		got, ok := Between(lo, hi)
		if !ok || !ratio.Valid(got) {
			t.Errorf("Between(%v, %v) = %v, %t", lo, hi, got, ok)
			return
		}
		if !isSimplest(rational(got), rational(lo), rational(hi)) {
			t.Errorf("Between(%v, %v) = %v", lo, hi, got)
		}
	})
}

// isSimplest reports whether x is the simplest fraction from lo to hi.
//
// A positive p / q has a neighbour below, a / b with p b - q a = 1 and b from 1 to q, and one above, (p - a) / (q - b).
// Each fraction strictly between the two is a sum of multiples of (a, b) and (p - a, q - b), each at least 1; so none is
// as simple as p / q. If both are outside of the interval, then p / q is its simplest fraction, and only then.
func isSimplest(x, lo, hi *big.Rat) bool {
	if x.Sign() < 0 {
		x, lo, hi = new(big.Rat).Neg(x), new(big.Rat).Neg(hi), new(big.Rat).Neg(lo)
	}
	if lo.Cmp(x) > 0 || x.Cmp(hi) > 0 {
		return false
	}
	if x.Sign() == 0 || lo.Sign() <= 0 {
		return x.Sign() == 0
	}
	p, q := x.Num(), x.Denom()
	b := new(big.Int).ModInverse(p, q)
	if b.Sign() == 0 {
		b.Set(q) // q is 1
	}
	a := new(big.Int).Mul(p, b)
	a.Sub(a, big.NewInt(1)).Quo(a, q)
	lower := new(big.Rat).SetFrac(a, b)
	upperNum, upperDen := a.Sub(p, a), b.Sub(q, b)
	// If q is 1, the neighbour above has the denominator 0: no number is above it.
	outside := upperDen.Sign() == 0 || new(big.Rat).SetFrac(upperNum, upperDen).Cmp(hi) > 0
	return lower.Cmp(lo) < 0 && outside
}

// TestManySteps takes fractions of consecutive Fibonacci numbers, which need the most steps.
func TestManySteps(t *testing.T) {
	a, b, c, d := wide.Of(1), wide.Of(1), wide.Of(2), wide.Of(3)
	for i := 0; ; i++ {
		lo, lowerOk := ratio.Make(b, a)
		hi, upperOk := ratio.Make(d, c)
		if !lowerOk || !upperOk {
			if i < 175 {
				t.Errorf("only %d fractions", i)
			}
			return
		}
		if got, ok := Between(hi, hi); got != hi || !ok {
			t.Errorf("Between(%v, %v) = %v, %t", hi, hi, got, ok)
		}
		if ratio.Compare(lo, hi) > 0 {
			lo, hi = hi, lo
		}
		// Both are on the same side of the golden ratio, neighbours there, and the earlier one has the smaller denominator.
		want, _ := ratio.Make(b, a)
		if got, ok := Between(lo, hi); got != want || !ok {
			t.Errorf("Between(%v, %v) = %v, %t, not %v", lo, hi, got, ok, want)
		}
		sum, _ := wide.Add(c, d)
		a, b, c, d = b, c, d, sum
	}
}

// Promise 4.3.

// TestZeroAndIntegers demands 0 if it is in the interval, and else the integer next to 0 if there is one.
func TestZeroAndIntegers(t *testing.T) {
	check := func(lo, hi api.Ratio) {
		want := api.Ratio{}
		switch lower, upper := ratio.Ceil(lo), ratio.Floor(hi); {
		case wide.Sign(lo.Num) <= 0 && wide.Sign(hi.Num) >= 0:
			want = over(0, 1)
		case wide.Compare(lower, upper) > 0:
			return
		case wide.Sign(lo.Num) > 0:
			want = api.Ratio{Num: lower, Den: one}
		default:
			want = api.Ratio{Num: upper, Den: one}
		}
		if got, ok := Between(lo, hi); got != want || !ok {
			t.Errorf("Between(%v, %v) = %v, %t, not %v", lo, hi, got, ok, want)
		}
	}
	intervals(check)
	for _, lo := range small() {
		for _, hi := range small() {
			if ratio.Compare(lo, hi) <= 0 {
				check(lo, hi)
			}
		}
	}
}

// TestOnlyOne demands that the simplest fraction of an interval is that of each part of the interval which contains it,
// and that it is simpler than all other fractions found there.
func TestOnlyOne(t *testing.T) {
	intervals(func(lo, hi api.Ratio) {
		got, _ := Between(lo, hi)
		for _, part := range [][2]api.Ratio{{lo, got}, {got, hi}, {got, got}} {
			if again, ok := Between(part[0], part[1]); again != got || !ok {
				t.Errorf("Between(%v, %v) = %v, %t, not %v", part[0], part[1], again, ok, got)
			}
		}
		for _, a := range []api.Ratio{lo, hi} {
			if a != got && !Simpler(got, a) {
				t.Errorf("Between(%v, %v) = %v is not simpler than %v", lo, hi, got, a)
			}
		}
	})
}

// Rule R3: the arguments are values, and the arrays in them, too.

func TestArgumentsStay(t *testing.T) {
	lo, hi := over(-7, 5), over(-4, 3)
	Between(lo, hi)
	Simpler(lo, hi)
	if lo != over(-7, 5) || hi != over(-4, 3) {
		t.Errorf("%v, %v", lo, hi)
	}
}
