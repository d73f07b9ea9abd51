package ratio

import (
	"math"
	"math/big"
	"math/rand"
	"testing"

	"tscodec/api"
	"tscodec/wide"
)

const (
	least    = math.MinInt64
	greatest = math.MaxInt64
	full     = math.MaxUint64 // a word with all bits
)

// plus and minus return a Wide with the words of an absolute value, the least significant one first.
func plus(mag ...uint64) api.Wide {
	var a api.Wide
	copy(a.Mag[:], mag)
	return a
}

func minus(mag ...uint64) api.Wide {
	a := plus(mag...)
	a.Neg = true
	return a
}

// over returns the struct of two small numbers, in lowest terms or not.
func over(num, den int64) api.Ratio {
	return api.Ratio{Num: wide.Of(num), Den: wide.Of(den)}
}

// none is what stands beside false, and is itself no valid fraction.
var none = api.Ratio{}

// The greatest absolute value in a valid fraction is 2^127 - 1.
var (
	most     = plus(full, 1<<63-1)
	tooMuch  = plus(0, 1<<63)
	mostNeg  = minus(full, 1<<63-1)
	tooLow   = minus(0, 1<<63)
	all      = plus(full, full, full, full)
	negative = api.Wide{Neg: true} // the one Wide that is not valid
)

// number returns the number of a valid Wide without bounds.
func number(a api.Wide) *big.Int {
	x := new(big.Int)
	for i := len(a.Mag) - 1; i >= 0; i-- {
		x.Lsh(x, 64)
		x.Or(x, new(big.Int).SetUint64(a.Mag[i]))
	}
	if a.Neg {
		x.Neg(x)
	}
	return x
}

// wideOf returns the Wide of a number of at most 256 bits.
func wideOf(x *big.Int) api.Wide {
	a := api.Wide{Neg: x.Sign() < 0}
	rest, word := new(big.Int).Abs(x), new(big.Int).SetUint64(full)
	for i := range a.Mag {
		a.Mag[i] = new(big.Int).And(rest, word).Uint64()
		rest.Rsh(rest, 64)
	}
	return a
}

// rational returns the number of a valid fraction without bounds.
func rational(a api.Ratio) *big.Rat {
	return new(big.Rat).SetFrac(number(a.Num), number(a.Den))
}

// reduced returns the valid fraction of two valid numbers, and whether there is one.
func reduced(num, den api.Wide) (api.Ratio, bool) {
	if den == (api.Wide{}) {
		return none, false
	}
	x := new(big.Rat).SetFrac(number(num), number(den))
	if x.Num().BitLen() > 127 || x.Denom().BitLen() > 127 {
		return none, false
	}
	return api.Ratio{Num: wideOf(x.Num()), Den: wideOf(x.Denom())}, true
}

// floor returns the greatest integer that is not greater than x.
func floor(x *big.Rat) *big.Int {
	// The denominator of a Rat is positive, for which DivMod of package big rounds downward.
	q, _ := new(big.Int).DivMod(x.Num(), x.Denom(), new(big.Int))
	return q
}

// operands are small numbers and those around powers of two, with both signs.
func operands() []api.Wide {
	list := []api.Wide{{}}
	add := func(a api.Wide) {
		list = append(list, a, wide.Neg(a))
	}
	for _, v := range []uint64{1, 2, 3, 4, 6, 7, 12, 30, 1000, 1 << 32} {
		add(plus(v))
	}
	one := big.NewInt(1)
	for _, exponent := range []uint{63, 64, 100, 126, 127, 128, 192, 255, 256} {
		for _, d := range []int64{-1, 0, 1} {
			x := new(big.Int).Lsh(one, exponent)
			if x.Add(x, big.NewInt(d)); x.BitLen() <= 256 {
				add(wideOf(x))
			}
		}
	}
	add(plus(3, 5, 0x9e3779b97f4a7c15))
	add(plus(0, full))
	return list
}

// randomWide returns a number of at most as many bits, often a short one.
func randomWide(random *rand.Rand, bits int) api.Wide {
	x := new(big.Int).Rand(random, new(big.Int).Lsh(big.NewInt(1), uint(1+random.Intn(bits))))
	if random.Intn(2) == 0 {
		x.Neg(x)
	}
	return wideOf(x)
}

// pairs calls f for each two operands, and for random numbers, of which many have a common divisor.
func pairs(f func(num, den api.Wide)) {
	for _, a := range operands() {
		for _, b := range operands() {
			f(a, b)
		}
	}
	random := rand.New(rand.NewSource(3))
	for range 3000 {
		a, b, common := randomWide(random, 127), randomWide(random, 127), randomWide(random, 129)
		f(a, b)
		a, _ = wide.Mul(a, common)
		b, _ = wide.Mul(b, common)
		f(a, b)
		f(randomWide(random, 256), randomWide(random, 256))
	}
}

// fractions are valid ones: those of small numbers, those at the limits, and random ones.
func fractions() []api.Ratio {
	var list []api.Ratio
	for num := int64(-7); num <= 7; num++ {
		for _, den := range []int64{1, 2, 3, 4, 5} {
			if a, _ := reduced(wide.Of(num), wide.Of(den)); a == over(num, den) {
				list = append(list, a)
			}
		}
	}
	below := plus(full-1, 1<<63-1) // 2^127 - 2
	one := wide.Of(1)
	for _, a := range []api.Ratio{
		{Num: most, Den: one}, {Num: below, Den: one}, {Num: one, Den: most}, {Num: one, Den: below},
		{Num: most, Den: below}, {Num: below, Den: most}, {Num: most, Den: wide.Of(2)}, {Num: wide.Of(2), Den: most},
		{Num: most, Den: plus(0, 1<<62)}, {Num: plus(0, 1<<62), Den: most},
	} {
		list = append(list, a, api.Ratio{Num: wide.Neg(a.Num), Den: a.Den})
	}
	list = append(list, Of(least), Of(greatest))
	random := rand.New(rand.NewSource(31))
	for len(list) < 150 {
		if a, ok := reduced(randomWide(random, 127), randomWide(random, 127)); ok {
			list = append(list, a)
		}
	}
	return list
}

// invalid are fractions that break one or more of the conditions.
func invalid() []api.Ratio {
	one := wide.Of(1)
	return []api.Ratio{
		none,
		over(1, 0),
		over(-1, 0),
		over(2, 4),
		over(-2, 4),
		over(6, 3),
		over(7, 7),
		over(0, 2),
		over(0, -1),
		over(1, -1),
		over(1, -2),
		over(-3, -2),
		{Num: negative, Den: one},
		{Num: one, Den: negative},
		{Num: negative, Den: negative},
		{Num: tooMuch, Den: one},
		{Num: tooLow, Den: one},
		{Num: one, Den: tooMuch},
		{Num: one, Den: wide.Neg(most)},
		{Num: most, Den: most},
		{Num: plus(0, 0, 1), Den: one},
		{Num: one, Den: plus(0, 0, 1)},
		{Num: plus(1, 0, 0, 1), Den: one},
		{Num: one, Den: plus(0, 0, 0, 1)},
		{Num: all, Den: one},
		{Num: all, Den: plus(full-1, full, full, full)},
		{Num: plus(0, 4), Den: plus(0, 6)},
		{Num: plus(0, 1<<62), Den: plus(2)},
	}
}

// Promise 3.1.

func TestValid(t *testing.T) {
	for _, a := range []api.Ratio{
		over(0, 1),
		over(1, 1),
		over(-1, 1),
		over(3, 2),
		over(-3, 2),
		over(least, 3),
		over(1, greatest),
		{Num: most, Den: wide.Of(1)},
		{Num: mostNeg, Den: wide.Of(1)},
		{Num: wide.Of(1), Den: most},
		{Num: mostNeg, Den: plus(0, 1<<62)},
		{Num: plus(1, 0x9e3779b97f4a7c15>>1), Den: plus(0, 1)},
	} {
		if !Valid(a) {
			t.Errorf("%v is not valid", a)
		}
	}
	for _, a := range invalid() {
		if Valid(a) {
			t.Errorf("%v is valid", a)
		}
	}
	for _, a := range fractions() {
		if !Valid(a) {
			t.Errorf("%v is not valid", a)
		}
	}
}

func TestValidOfAll(t *testing.T) {
	pairs(func(num, den api.Wide) {
		a := api.Ratio{Num: num, Den: den}
		lowest, ok := reduced(num, den)
		if want := ok && lowest == a; Valid(a) != want {
			t.Errorf("Valid(%v) = %t", a, !want)
		}
	})
}

func TestInvalidCountsAsZero(t *testing.T) {
	zero := over(0, 1)
	for _, a := range invalid() {
		if got := Floor(a); got != (api.Wide{}) {
			t.Errorf("Floor(%v) = %v", a, got)
		}
		if got := Ceil(a); got != (api.Wide{}) {
			t.Errorf("Ceil(%v) = %v", a, got)
		}
		for _, n := range []uint64{0, 1, 3, full} {
			if got := At(a, n); got != (api.Wide{}) {
				t.Errorf("At(%v, %d) = %v", a, n, got)
			}
		}
		for _, b := range fractions() {
			sign := number(b.Num).Sign()
			if got := Compare(a, b); got != -sign {
				t.Errorf("Compare(%v, %v) = %d", a, b, got)
			}
			if got := Compare(b, a); got != sign {
				t.Errorf("Compare(%v, %v) = %d", b, a, got)
			}
		}
		for _, b := range append(invalid(), zero) {
			if got := Compare(a, b); got != 0 {
				t.Errorf("Compare(%v, %v) = %d", a, b, got)
			}
		}
	}
}

// Promise 3.2.

func TestMake(t *testing.T) {
	one := wide.Of(1)
	for _, r := range []struct {
		num, den api.Wide
		want     api.Ratio
		ok       bool
	}{
		{wide.Of(6), wide.Of(-4), over(-3, 2), true},
		{wide.Of(6), wide.Of(4), over(3, 2), true},
		{wide.Of(-6), wide.Of(4), over(-3, 2), true},
		{wide.Of(-6), wide.Of(-4), over(3, 2), true},
		{wide.Of(4), wide.Of(6), over(2, 3), true},
		{wide.Of(0), wide.Of(7), over(0, 1), true},
		{wide.Of(0), wide.Of(-7), over(0, 1), true},
		{wide.Of(0), all, over(0, 1), true},
		{wide.Of(7), wide.Of(7), over(1, 1), true},
		{wide.Of(least), wide.Of(-1), api.Ratio{Num: plus(1 << 63), Den: one}, true},
		{wide.Of(least), wide.Of(least), over(1, 1), true},
		// The zero value and false: 0 as the denominator, arguments that are not valid.
		{wide.Of(1), wide.Of(0), none, false},
		{wide.Of(0), wide.Of(0), none, false},
		{all, wide.Of(0), none, false},
		{negative, one, none, false},
		{one, negative, none, false},
		{negative, negative, none, false},
		{negative, wide.Of(0), none, false},
		// Around 2^127: it is the reduced numbers that count.
		{most, one, api.Ratio{Num: most, Den: one}, true},
		{mostNeg, one, api.Ratio{Num: mostNeg, Den: one}, true},
		{most, wide.Of(-1), api.Ratio{Num: mostNeg, Den: one}, true},
		{one, most, api.Ratio{Num: one, Den: most}, true},
		{one, mostNeg, api.Ratio{Num: wide.Of(-1), Den: most}, true},
		{tooMuch, one, none, false},
		{tooLow, one, none, false},
		{one, tooMuch, none, false},
		{one, tooLow, none, false},
		{tooMuch, wide.Of(2), api.Ratio{Num: plus(0, 1<<62), Den: one}, true},
		{wide.Of(2), tooMuch, api.Ratio{Num: one, Den: plus(0, 1<<62)}, true},
		{tooMuch, wide.Of(3), none, false},
		{wide.Of(3), tooMuch, none, false},
		{tooMuch, tooMuch, over(1, 1), true},
		{tooMuch, tooLow, over(-1, 1), true},
		{plus(0, 0, 1), one, none, false},
		{one, plus(0, 0, 0, 1), none, false},
		{plus(0, 0, 3), plus(0, 0, 6), over(1, 2), true},
		{all, all, over(1, 1), true},
		{all, plus(full-1, full, full, full), none, false},
		{all, plus(full, full), none, false}, // 2^128 + 1
		{plus(full, full), all, none, false},
	} {
		if got, ok := Make(r.num, r.den); got != r.want || ok != r.ok {
			t.Errorf("Make(%v, %v) = %v, %t, not %v, %t", r.num, r.den, got, ok, r.want, r.ok)
		}
	}
}

func TestMakeOfAll(t *testing.T) {
	pairs(func(num, den api.Wide) {
		want, is := reduced(num, den)
		if got, ok := Make(num, den); got != want || ok != is {
			t.Errorf("Make(%v, %v) = %v, %t, not %v, %t", num, den, got, ok, want, is)
		}
	})
}

// TestMakeOfNeighbours reduces neighbours in the Fibonacci numbers, whose common divisor takes the most steps.
func TestMakeOfNeighbours(t *testing.T) {
	x, y := big.NewInt(1), big.NewInt(2)
	for y.BitLen() <= 127 {
		want := api.Ratio{Num: wideOf(x), Den: wideOf(y)}
		three := big.NewInt(3)
		num, den := new(big.Int).Mul(x, three), new(big.Int).Mul(y, three)
		if got, ok := Make(wideOf(num), wideOf(den)); got != want || !ok {
			t.Errorf("Make(3 * %s, 3 * %s) = %v, %t", x, y, got, ok)
		}
		x, y = y, new(big.Int).Add(x, y)
	}
}

func TestOf(t *testing.T) {
	for _, r := range []struct {
		v    int64
		want api.Ratio
	}{
		{0, api.Ratio{Den: plus(1)}},
		{1, api.Ratio{Num: plus(1), Den: plus(1)}},
		{-1, api.Ratio{Num: minus(1), Den: plus(1)}},
		{12, api.Ratio{Num: plus(12), Den: plus(1)}},
		{greatest, api.Ratio{Num: plus(1<<63 - 1), Den: plus(1)}},
		{least, api.Ratio{Num: minus(1 << 63), Den: plus(1)}},
	} {
		if got := Of(r.v); got != r.want {
			t.Errorf("Of(%d) = %v", r.v, got)
		}
	}
}

// Promise 3.3.

func TestCompare(t *testing.T) {
	for _, r := range []struct {
		a, b api.Ratio
		want int
	}{
		{over(1, 2), over(1, 3), 1},
		{over(1, 3), over(1, 2), -1},
		{over(1, 2), over(1, 2), 0},
		{over(-1, 2), over(1, 3), -1},
		{over(-1, 2), over(-1, 3), -1},
		{over(-1, 3), over(-1, 2), 1},
		{over(0, 1), over(-1, 5), 1},
		{over(0, 1), over(1, 5), -1},
		{over(0, 1), over(0, 1), 0},
		{over(2, 3), over(3, 5), 1},
		{over(-3, 2), over(-2, 1), 1},
		// Next to each other at the limits: their difference is 1 / ((2^127 - 1) (2^127 - 2)).
		{api.Ratio{Num: wide.Of(1), Den: most}, api.Ratio{Num: wide.Of(1), Den: plus(full-1, 1<<63-1)}, -1},
		{api.Ratio{Num: plus(full-1, 1<<63-1), Den: most}, api.Ratio{Num: plus(full-2, 1<<63-1), Den: plus(full-1, 1<<63-1)}, 1},
		{api.Ratio{Num: most, Den: wide.Of(1)}, api.Ratio{Num: mostNeg, Den: wide.Of(1)}, 1},
	} {
		if got := Compare(r.a, r.b); got != r.want {
			t.Errorf("Compare(%v, %v) = %d", r.a, r.b, got)
		}
	}
	list := fractions()
	for _, a := range list {
		for _, b := range list {
			if got, want := Compare(a, b), rational(a).Cmp(rational(b)); got != want {
				t.Errorf("Compare(%v, %v) = %d", a, b, got)
			}
		}
	}
}

func TestFloorAndCeil(t *testing.T) {
	for _, r := range []struct {
		a           api.Ratio
		floor, ceil api.Wide
	}{
		{over(-3, 2), wide.Of(-2), wide.Of(-1)},
		{over(3, 2), wide.Of(1), wide.Of(2)},
		{over(1, 2), wide.Of(0), wide.Of(1)},
		{over(-1, 2), wide.Of(-1), wide.Of(0)},
		{over(0, 1), wide.Of(0), wide.Of(0)},
		{over(4, 1), wide.Of(4), wide.Of(4)},
		{over(-4, 1), wide.Of(-4), wide.Of(-4)},
		{over(7, 3), wide.Of(2), wide.Of(3)},
		{over(-7, 3), wide.Of(-3), wide.Of(-2)},
		{over(least, 1), wide.Of(least), wide.Of(least)},
		{api.Ratio{Num: most, Den: wide.Of(1)}, most, most},
		{api.Ratio{Num: mostNeg, Den: wide.Of(1)}, mostNeg, mostNeg},
		{api.Ratio{Num: wide.Of(1), Den: most}, wide.Of(0), wide.Of(1)},
		{api.Ratio{Num: wide.Of(-1), Den: most}, wide.Of(-1), wide.Of(0)},
		{api.Ratio{Num: most, Den: wide.Of(2)}, plus(full, 1<<62-1), plus(0, 1<<62)},
		{api.Ratio{Num: mostNeg, Den: wide.Of(2)}, minus(0, 1<<62), minus(full, 1<<62-1)},
	} {
		if got := Floor(r.a); got != r.floor {
			t.Errorf("Floor(%v) = %v", r.a, got)
		}
		if got := Ceil(r.a); got != r.ceil {
			t.Errorf("Ceil(%v) = %v", r.a, got)
		}
	}
	for _, a := range fractions() {
		x := rational(a)
		if got := Floor(a); got != wideOf(floor(x)) {
			t.Errorf("Floor(%v) = %v", a, got)
		}
		ceil := new(big.Int).Neg(floor(new(big.Rat).Neg(x)))
		if got := Ceil(a); got != wideOf(ceil) {
			t.Errorf("Ceil(%v) = %v", a, got)
		}
	}
}

func TestAt(t *testing.T) {
	for _, r := range []struct {
		a    api.Ratio
		n    uint64
		want api.Wide
	}{
		{over(1, 2), 3, wide.Of(2)},
		{over(-1, 2), 3, wide.Of(-1)},
		{over(1, 2), 1, wide.Of(1)},
		{over(-1, 2), 1, wide.Of(0)},
		{over(1, 3), 1, wide.Of(0)},
		{over(2, 3), 1, wide.Of(1)},
		{over(-1, 3), 1, wide.Of(0)},
		{over(-2, 3), 1, wide.Of(-1)},
		{over(-4, 3), 1, wide.Of(-1)},
		{over(5, 4), 2, wide.Of(3)},
		{over(-5, 4), 2, wide.Of(-2)},
		{over(5, 1), 0, wide.Of(0)},
		{over(-5, 2), 0, wide.Of(0)},
		{over(0, 1), full, wide.Of(0)},
		{over(1, 1), full, plus(full)},
		{over(-1, 1), full, minus(full)},
		{over(1, 2), full, plus(1 << 63)},
		{over(-1, 2), full, minus(1<<63 - 1)},
		{over(1, 1), 1 << 63, plus(1 << 63)},
		{api.Ratio{Num: most, Den: wide.Of(1)}, full, plus(1, 1<<63-1, full-1<<63)},
		{api.Ratio{Num: mostNeg, Den: wide.Of(1)}, full, minus(1, 1<<63-1, full-1<<63)},
		{api.Ratio{Num: most, Den: wide.Of(2)}, 1, plus(0, 1<<62)},
		{api.Ratio{Num: wide.Of(1), Den: most}, full, wide.Of(0)},
		{api.Ratio{Num: wide.Of(-1), Den: most}, full, wide.Of(0)},
		{api.Ratio{Num: plus(0, 1<<62), Den: most}, 1, wide.Of(1)}, // a little more than 1/2
		{api.Ratio{Num: plus(full, 1<<62-1), Den: most}, 1, wide.Of(0)},
		{api.Ratio{Num: minus(0, 1<<62), Den: most}, 1, wide.Of(-1)},
		{api.Ratio{Num: minus(full, 1<<62-1), Den: most}, 1, wide.Of(0)},
	} {
		if got := At(r.a, r.n); got != r.want {
			t.Errorf("At(%v, %d) = %v, not %v", r.a, r.n, got, r.want)
		}
	}
}

// factors are the integers by which At multiplies.
func factors() []uint64 {
	list := []uint64{0, 1, 2, 3, 4, 5, 1000, 1<<32 + 1, 1<<63 - 1, 1 << 63, full - 1, full}
	random := rand.New(rand.NewSource(33))
	for range 20 {
		list = append(list, random.Uint64()>>random.Intn(64))
	}
	return list
}

// times returns a n without bounds.
func times(a api.Ratio, n uint64) *big.Rat {
	factor := new(big.Rat).SetInt(new(big.Int).SetUint64(n))
	return factor.Mul(factor, rational(a))
}

func TestAtOfAll(t *testing.T) {
	half := big.NewRat(1, 2)
	for _, a := range fractions() {
		for _, n := range factors() {
			x := times(a, n)
			if got, want := At(a, n), floor(x.Add(x, half)); got != wideOf(want) {
				t.Errorf("At(%v, %d) = %v, not %s", a, n, got, want)
			}
		}
	}
}

// Promise 3.4.

// TestOneFraction makes each number from several pairs: the result is the same struct, and equal numbers are equal structs.
func TestOneFraction(t *testing.T) {
	list := fractions()
	for _, a := range list {
		for _, factor := range []int64{1, -1, 2, -3, 1 << 40, least} {
			num, _ := wide.Mul(a.Num, wide.Of(factor))
			den, _ := wide.Mul(a.Den, wide.Of(factor))
			if got, ok := Make(num, den); got != a || !ok {
				t.Errorf("Make(%v, %v) = %v, %t, not %v", num, den, got, ok, a)
			}
		}
		for _, b := range list {
			if same := Compare(a, b) == 0; same != (a == b) {
				t.Errorf("%v and %v are the same number: %t", a, b, same)
			}
		}
	}
}

// TestAtIsBetween demands that no integer is nearer, and that the upper one is taken of two that are equally near.
func TestAtIsBetween(t *testing.T) {
	half := big.NewRat(1, 2)
	for _, a := range fractions() {
		for _, n := range factors() {
			x, at := times(a, n), number(At(a, n))
			away := new(big.Rat).Sub(new(big.Rat).SetInt(at), x)
			if away.Cmp(half) > 0 || away.Cmp(new(big.Rat).Neg(half)) <= 0 {
				t.Errorf("At(%v, %d) = %s is away by %s", a, n, at, away)
			}
			lower := floor(x)
			upper := new(big.Int).Neg(floor(new(big.Rat).Neg(x)))
			if at.Cmp(lower) < 0 || at.Cmp(upper) > 0 {
				t.Errorf("At(%v, %d) = %s is not from %s to %s", a, n, at, lower, upper)
			}
		}
	}
}

// Rule R3: the arguments are values, and the arrays in them, too.

func TestArgumentsStay(t *testing.T) {
	num, den := minus(full, 1<<63, 7), minus(6, 4)
	Make(num, den)
	if num != minus(full, 1<<63, 7) || den != minus(6, 4) {
		t.Errorf("%v, %v", num, den)
	}
	a, b := over(-3, 2), over(2, 4)
	Valid(a)
	Compare(a, b)
	Floor(a)
	Ceil(a)
	At(b, 7)
	if a != over(-3, 2) || b != over(2, 4) {
		t.Errorf("%v, %v", a, b)
	}
}
