package wide

import (
	"math"
	"math/big"
	"math/rand"
	"testing"

	"tscodec/api"
)

const (
	least    = math.MinInt64
	greatest = math.MaxInt64
	full     = math.MaxUint64 // a word with all bits
)

// zero is the number 0; negativeZero is the one Wide that is not valid.
var (
	zero         = api.Wide{}
	negativeZero = api.Wide{Neg: true}
)

// plus and minus return a Wide with the words of an absolute value, the least significant one first.
func plus(mag ...uint64) api.Wide {
	var a api.Wide
	copy(a.Mag[:], mag)
	return a
}

func minus(mag ...uint64) api.Wide {
	a := plus(mag...)
	a.Neg = true
	return a
}

// number returns the number of a valid Wide without bounds.
func number(a api.Wide) *big.Int {
	x := new(big.Int)
	for i := len(a.Mag) - 1; i >= 0; i-- {
		x.Lsh(x, 64)
		x.Or(x, new(big.Int).SetUint64(a.Mag[i]))
	}
	if a.Neg {
		x.Neg(x)
	}
	return x
}

// wideOf returns the Wide of a number, and whether its absolute value is less than 2^256.
func wideOf(x *big.Int) (api.Wide, bool) {
	if x.BitLen() > 256 {
		return api.Wide{}, false
	}
	a := api.Wide{Neg: x.Sign() < 0}
	rest, word := new(big.Int).Abs(x), new(big.Int).SetUint64(full)
	for i := range a.Mag {
		a.Mag[i] = new(big.Int).And(rest, word).Uint64()
		rest.Rsh(rest, 64)
	}
	return a, true
}

// both adds a and -a to a list.
func both(list []api.Wide, a api.Wide) []api.Wide {
	if a == zero {
		return append(list, a)
	}
	return append(list, a, api.Wide{Neg: !a.Neg, Mag: a.Mag})
}

// operands are small numbers, those around powers of two and at both ends of the range, and combinations of peculiar words.
func operands() []api.Wide {
	var list []api.Wide
	for v := uint64(0); v <= 7; v++ {
		list = both(list, plus(v))
	}
	one := big.NewInt(1)
	for _, exponent := range []uint{32, 63, 64, 65, 127, 128, 191, 192, 255, 256} {
		power := new(big.Int).Lsh(one, exponent)
		for _, d := range []int64{-2, -1, 0, 1} {
			if a, ok := wideOf(new(big.Int).Add(power, big.NewInt(d))); ok {
				list = both(list, a)
			}
		}
	}
	for _, a := range []api.Wide{
		plus(0, 1<<63, 1<<63-1),
		plus(full, 0, full),
		plus(0, full, 1<<63),
		plus(full, 1<<63),
		plus(0, 0, full, full),
		plus(full, 0, 0, 1<<63),
		plus(3, 5, 0x9e3779b97f4a7c15),
		plus(0x9e3779b97f4a7c15, 0, 77, 1<<60),
	} {
		list = both(list, a)
	}
	return list
}

// pairs calls f for each two operands, and for random ones with words that are often 0, full or close to a power of two.
func pairs(f func(a, b api.Wide)) {
	for _, a := range operands() {
		for _, b := range operands() {
			f(a, b)
		}
	}
	random := rand.New(rand.NewSource(2))
	for range 20000 {
		f(randomWide(random), randomWide(random))
	}
}

func randomWide(random *rand.Rand) api.Wide {
	var a api.Wide
	for i := range 1 + random.Intn(4) {
		switch random.Intn(6) {
		case 0:
			a.Mag[i] = 0
		case 1:
			a.Mag[i] = full
		case 2:
			a.Mag[i] = 1<<63 - uint64(random.Intn(3))
		case 3:
			a.Mag[i] = uint64(random.Intn(4))
		default:
			a.Mag[i] = random.Uint64() >> random.Intn(64)
		}
	}
	a.Neg = random.Intn(2) == 0 && a != zero
	return a
}

// row is a call with two arguments and what it returns.
type row struct {
	a, b, want api.Wide
	ok         bool
}

// check demands the results of the rows.
func check(t *testing.T, name string, f func(a, b api.Wide) (api.Wide, bool), rows []row) {
	t.Helper()
	for _, r := range rows {
		if got, ok := f(r.a, r.b); got != r.want || ok != r.ok {
			t.Errorf("%s(%v, %v) = %v, %t, not %v, %t", name, r.a, r.b, got, ok, r.want, r.ok)
		}
	}
}

// compare demands the exact result where it exists and has at most 256 bits, and otherwise 0 and false.
func compare(t *testing.T, name string, f func(a, b api.Wide) (api.Wide, bool), exact func(x, y *big.Int) *big.Int) {
	t.Helper()
	pairs(func(a, b api.Wide) {
		want, fits := wideOf(exact(number(a), number(b)))
		if got, ok := f(a, b); got != want || ok != fits {
			t.Errorf("%s(%v, %v) = %v, %t, not %v, %t", name, a, b, got, ok, want, fits)
		}
	})
}

// Promise 2.1.

func TestValid(t *testing.T) {
	for _, r := range []struct {
		a    api.Wide
		want bool
	}{
		{zero, true},
		{negativeZero, false},
		{plus(1), true},
		{minus(1), true},
		{minus(0, 1), true},
		{minus(0, 0, 1), true},
		{minus(0, 0, 0, 1), true},
		{plus(full, full, full, full), true},
		{minus(full, full, full, full), true},
	} {
		if got := Valid(r.a); got != r.want {
			t.Errorf("Valid(%v) = %t", r.a, got)
		}
	}
	for _, a := range operands() {
		if !Valid(a) {
			t.Errorf("%v is not valid", a)
		}
	}
}

func TestNegativeZeroCountsAsZero(t *testing.T) {
	if v, ok := Int64(negativeZero); v != 0 || !ok {
		t.Errorf("Int64 returns %d, %t", v, ok)
	}
	if v, ok := Unsigned(negativeZero); v != 0 || !ok {
		t.Errorf("Unsigned returns %d, %t", v, ok)
	}
	if got := Sign(negativeZero); got != 0 {
		t.Errorf("Sign returns %d", got)
	}
	if got := Neg(negativeZero); got != zero {
		t.Errorf("Neg returns %v", got)
	}
	if got := Text(negativeZero); got != "0" {
		t.Errorf("Text returns %q", got)
	}
}

func TestNegativeZeroAsOperand(t *testing.T) {
	functions := map[string]func(a, b api.Wide) (api.Wide, bool){
		"Add": Add, "Sub": Sub, "Mul": Mul, "quotient": quotient, "rest": rest,
		"Compare": func(a, b api.Wide) (api.Wide, bool) { return Of(int64(Compare(a, b))), true },
	}
	others := append(operands(), negativeZero)
	for name, f := range functions {
		for _, a := range others {
			// What f does with a valid 0 is tested against big numbers elsewhere.
			plain := a
			if a == negativeZero {
				plain = zero
			}
			want, fits := f(plain, zero)
			if got, ok := f(a, negativeZero); got != want || ok != fits {
				t.Errorf("%s(%v, -0) = %v, %t, not %v, %t", name, a, got, ok, want, fits)
			}
			want, fits = f(zero, plain)
			if got, ok := f(negativeZero, a); got != want || ok != fits {
				t.Errorf("%s(-0, %v) = %v, %t, not %v, %t", name, a, got, ok, want, fits)
			}
		}
	}
}

func TestWordsInOrder(t *testing.T) {
	for _, r := range []struct {
		a    api.Wide
		want string
	}{
		{plus(1), "1"},
		{plus(0, 1), "18446744073709551616"},
		{plus(0, 0, 1), "340282366920938463463374607431768211456"},
		{minus(0, 0, 0, 1), "-6277101735386680763835789423207666416102355444464034512896"},
	} {
		if got := Text(r.a); got != r.want {
			t.Errorf("%v stands for %s, not %s", r.a, got, r.want)
		}
	}
}

func TestResultsAreValid(t *testing.T) {
	demand := func(name string, a, b, result api.Wide) {
		if !Valid(result) {
			t.Errorf("%s(%v, %v) = %v", name, a, b, result)
		}
	}
	for _, a := range append(operands(), negativeZero) {
		demand("Neg", a, zero, Neg(a))
		for _, b := range append(operands(), negativeZero) {
			sum, _ := Add(a, b)
			demand("Add", a, b, sum)
			difference, _ := Sub(a, b)
			demand("Sub", a, b, difference)
			product, _ := Mul(a, b)
			demand("Mul", a, b, product)
			q, r, _ := DivMod(a, b)
			demand("quotient of DivMod", a, b, q)
			demand("rest of DivMod", a, b, r)
		}
	}
}

// Promise 2.2.

func TestOf(t *testing.T) {
	for _, r := range []struct {
		v    int64
		want api.Wide
	}{
		{0, zero},
		{1, plus(1)},
		{-1, minus(1)},
		{greatest, plus(1<<63 - 1)},
		{-greatest, minus(1<<63 - 1)},
		{least, minus(1 << 63)},
	} {
		if got := Of(r.v); got != r.want {
			t.Errorf("Of(%d) = %v", r.v, got)
		}
		if got, ok := Int64(r.want); got != r.v || !ok {
			t.Errorf("Int64(%v) = %d, %t", r.want, got, ok)
		}
	}
}

func TestOfUnsigned(t *testing.T) {
	for _, v := range []uint64{0, 1, 1<<63 - 1, 1 << 63, full - 1, full} {
		if got := OfUnsigned(v); got != plus(v) {
			t.Errorf("OfUnsigned(%d) = %v", v, got)
		}
		if got, ok := Unsigned(plus(v)); got != v || !ok {
			t.Errorf("Unsigned of %d = %d, %t", v, got, ok)
		}
	}
}

func TestNoInt64(t *testing.T) {
	for _, a := range []api.Wide{
		plus(1 << 63),
		minus(1<<63 + 1),
		plus(full),
		minus(full),
		plus(0, 1),
		minus(0, 1),
		plus(5, 0, 1),
		minus(5, 0, 0, 1),
		minus(1<<63, 1),
		plus(full, full, full, full),
	} {
		if got, ok := Int64(a); got != 0 || ok {
			t.Errorf("Int64(%v) = %d, %t", a, got, ok)
		}
	}
}

func TestNoUnsigned(t *testing.T) {
	for _, a := range []api.Wide{
		minus(1),
		minus(full),
		plus(0, 1),
		plus(5, 0, 1),
		plus(5, 0, 0, 1),
		minus(0, 1),
		plus(full, full, full, full),
	} {
		if got, ok := Unsigned(a); got != 0 || ok {
			t.Errorf("Unsigned(%v) = %d, %t", a, got, ok)
		}
	}
}

func TestSmallNumbersOfAll(t *testing.T) {
	for _, a := range operands() {
		x := number(a)
		if got, ok := Int64(a); ok != x.IsInt64() || (ok && got != x.Int64()) || (!ok && got != 0) {
			t.Errorf("Int64(%s) = %d, %t", x, got, ok)
		}
		if got, ok := Unsigned(a); ok != x.IsUint64() || (ok && got != x.Uint64()) || (!ok && got != 0) {
			t.Errorf("Unsigned(%s) = %d, %t", x, got, ok)
		}
	}
}

func TestSign(t *testing.T) {
	for _, r := range []struct {
		a    api.Wide
		want int
	}{
		{zero, 0},
		{plus(1), 1},
		{minus(1), -1},
		{plus(0, 0, 0, 1), 1},
		{minus(0, 0, 0, 1), -1},
		{minus(full, full, full, full), -1},
	} {
		if got := Sign(r.a); got != r.want {
			t.Errorf("Sign(%v) = %d", r.a, got)
		}
	}
}

func TestCompare(t *testing.T) {
	ascending := []api.Wide{
		minus(full, full, full, full), minus(0, 0, 0, 1), minus(0, 0, 1), minus(0, 1), minus(2), minus(1),
		zero,
		plus(1), plus(2), plus(full), plus(0, 1), plus(1, 1), plus(full, 0, 1), plus(0, 1, 1), plus(0, 0, 0, 1), plus(full, full, full, full),
	}
	for i, a := range ascending {
		for j, b := range ascending {
			want := 0
			if i < j {
				want = -1
			} else if i > j {
				want = 1
			}
			if got := Compare(a, b); got != want {
				t.Errorf("Compare(%v, %v) = %d", a, b, got)
			}
		}
	}
	pairs(func(a, b api.Wide) {
		if got := Compare(a, b); got != number(a).Cmp(number(b)) {
			t.Errorf("Compare(%v, %v) = %d", a, b, got)
		}
	})
}

func TestNeg(t *testing.T) {
	for _, r := range []struct{ a, want api.Wide }{
		{zero, zero},
		{plus(1), minus(1)},
		{minus(1), plus(1)},
		{minus(1 << 63), plus(1 << 63)},
		{plus(full, full, full, full), minus(full, full, full, full)},
		{minus(full, full, full, full), plus(full, full, full, full)},
	} {
		if got := Neg(r.a); got != r.want {
			t.Errorf("Neg(%v) = %v", r.a, got)
		}
	}
}

// Promise 2.3.

func TestAdd(t *testing.T) {
	check(t, "Add", Add, []row{
		{plus(2), plus(3), plus(5), true},
		{minus(2), plus(3), plus(1), true},
		{plus(2), minus(3), minus(1), true},
		{minus(2), minus(3), minus(5), true},
		{plus(7), minus(7), zero, true},
		{minus(7), plus(7), zero, true},
		{plus(full), plus(1), plus(0, 1), true},
		{plus(full, full, full), plus(1), plus(0, 0, 0, 1), true},
		{plus(0, 0, 0, 1), minus(1), plus(full, full, full), true},
		{plus(full-1, full, full, full), plus(1), plus(full, full, full, full), true},
		{plus(full, full, full, full), plus(1), zero, false}, // 2^256
		{minus(full, full, full, full), minus(1), zero, false},
		{plus(full, full, full, full), minus(1), plus(full-1, full, full, full), true},
		{plus(full, full, full, full), minus(full, full, full, full), zero, true},
		{plus(full, full, full, full), plus(full, full, full, full), zero, false},
		{plus(0, 0, 0, 1<<63), plus(0, 0, 0, 1<<63), zero, false},
		{minus(0, 0, 0, 1<<63), minus(0, 0, 0, 1<<63), zero, false},
		{plus(full, full, full, 1<<63-1), plus(0, 0, 0, 1<<63), plus(full, full, full, full), true},
	})
	compare(t, "Add", Add, func(x, y *big.Int) *big.Int { return new(big.Int).Add(x, y) })
}

func TestSub(t *testing.T) {
	check(t, "Sub", Sub, []row{
		{plus(2), plus(3), minus(1), true},
		{plus(3), plus(2), plus(1), true},
		{minus(2), plus(3), minus(5), true},
		{plus(2), minus(3), plus(5), true},
		{plus(7), plus(7), zero, true},
		{minus(7), minus(7), zero, true},
		{zero, plus(1), minus(1), true},
		{plus(0, 0, 0, 1), plus(1), plus(full, full, full), true},
		{minus(full, full, full, full), plus(1), zero, false}, // -2^256
		{plus(full, full, full, full), minus(1), zero, false},
		{zero, plus(full, full, full, full), minus(full, full, full, full), true},
		{plus(full, full, full, full), plus(full, full, full, full), zero, true},
		{minus(0, 0, 0, 1<<63), plus(0, 0, 0, 1<<63), zero, false},
	})
	compare(t, "Sub", Sub, func(x, y *big.Int) *big.Int { return new(big.Int).Sub(x, y) })
}

func TestMul(t *testing.T) {
	check(t, "Mul", Mul, []row{
		{plus(6), plus(7), plus(42), true},
		{minus(6), plus(7), minus(42), true},
		{plus(6), minus(7), minus(42), true},
		{minus(6), minus(7), plus(42), true},
		{zero, minus(7), zero, true},
		{minus(full, full, full, full), zero, zero, true},
		{plus(full, full, full, full), minus(1), minus(full, full, full, full), true},
		{plus(full), plus(full), plus(1, full-1), true},
		{plus(0, 1), plus(0, 1), plus(0, 0, 1), true},
		{plus(0, 0, 1), plus(0, 0, 1), zero, false}, // 2^256
		{plus(0, 0, 1), minus(0, 0, 1), zero, false},
		{plus(0, 0, 1), plus(full, full), plus(0, 0, full, full), true},
		{plus(0, 0, 0, 1), plus(0, 1), zero, false},
		{plus(0, 0, 0, 1), plus(0, 0, 0, 1), zero, false}, // 2^384
		{plus(0, 0, 0, 1<<63), plus(2), zero, false},
		{plus(0, 0, 0, 1<<62), plus(2), plus(0, 0, 0, 1<<63), true},
		{plus(full, full), plus(1, 0, 1), plus(full, full, full, full), true}, // 2^128 - 1 and 2^128 + 1
		{plus(1, 0, 1), plus(1, 0, 1), zero, false},
		{plus(full, full, full, full), plus(full, full, full, full), zero, false}, // wraps to 1
	})
	compare(t, "Mul", Mul, func(x, y *big.Int) *big.Int { return new(big.Int).Mul(x, y) })
}

// Promise 2.4.

// quotient and rest return one result of DivMod each.
func quotient(a, b api.Wide) (api.Wide, bool) {
	q, _, ok := DivMod(a, b)
	return q, ok
}

func rest(a, b api.Wide) (api.Wide, bool) {
	_, r, ok := DivMod(a, b)
	return r, ok
}

func TestDivMod(t *testing.T) {
	for _, r := range []struct {
		a, b, q, r api.Wide
		ok         bool
	}{
		{plus(7), plus(2), plus(3), plus(1), true},
		{minus(7), plus(2), minus(4), plus(1), true},
		{plus(7), minus(2), minus(3), plus(1), true},
		{minus(7), minus(2), plus(4), plus(1), true},
		{minus(8), plus(2), minus(4), zero, true},
		{minus(8), minus(2), plus(4), zero, true},
		{zero, minus(5), zero, zero, true},
		{plus(1), plus(0, 0, 0, 1), zero, plus(1), true},
		{minus(1), plus(0, 0, 0, 1), minus(1), plus(full, full, full), true},
		{minus(1), minus(0, 0, 0, 1), plus(1), plus(full, full, full), true},
		{plus(5), zero, zero, zero, false},
		{zero, zero, zero, zero, false},
		{minus(full, full, full, full), zero, zero, zero, false},
		{minus(full, full, full, full), plus(1), minus(full, full, full, full), zero, true},
		{minus(full, full, full, full), minus(1), plus(full, full, full, full), zero, true},
		{minus(full, full, full, full), plus(2), minus(0, 0, 0, 1<<63), plus(1), true},
		{plus(full, full, full, full), plus(full, full, full, full), plus(1), zero, true},
		{minus(full-1, full, full, full), plus(full, full, full, full), minus(1), plus(1), true},
		{plus(full, full, full, full), plus(full, full), plus(1, 0, 1), zero, true},
		{plus(full, full, full, full), plus(full), plus(1, 1, 1, 1), zero, true},
		{plus(1, 2, 3, 4), plus(0, 0, 1), plus(3, 4), plus(1, 2), true},
		// The top words of the running number and of the divisor are equal.
		{plus(0, 0, 1<<63), plus(1, 1<<63), plus(full), plus(1, 1<<63-1), true},
		// The first guess of a digit is 2 too great: the quotient of the top words is 2^64 - 2, and the digit is 2^64 - 4.
		{plus(0, 0, 1<<63-1), plus(full, 1<<63), plus(full - 3), plus(full-3, 4), true},
	} {
		q, rest, ok := DivMod(r.a, r.b)
		if q != r.q || rest != r.r || ok != r.ok {
			t.Errorf("DivMod(%v, %v) = %v, %v, %t, not %v, %v, %t", r.a, r.b, q, rest, ok, r.q, r.r, r.ok)
		}
	}
}

func TestDivModOfAll(t *testing.T) {
	pairs(func(a, b api.Wide) {
		if b == zero {
			return
		}
		x, y := number(a), number(b)
		// DivMod of package big gives a rest that is not negative, too.
		wantQ, wantR := new(big.Int).DivMod(x, y, new(big.Int))
		q, r, ok := DivMod(a, b)
		if !ok || number(q).Cmp(wantQ) != 0 || number(r).Cmp(wantR) != 0 {
			t.Errorf("DivMod(%v, %v) = %v, %v, %t, not %s, %s", a, b, q, r, ok, wantQ, wantR)
		}
	})
}

// TestDivModBesideMultiples divides numbers next to multiples of the divisor, where a digit of the quotient changes.
func TestDivModBesideMultiples(t *testing.T) {
	random := rand.New(rand.NewSource(4))
	for range 50000 {
		b, factor := randomWide(random), randomWide(random)
		product, ok := Mul(b, factor)
		if !ok || b == zero {
			continue
		}
		for _, d := range []int64{-1, 0, 1} {
			a, ok := Add(product, Of(d))
			if !ok {
				continue
			}
			wantQ, wantR := new(big.Int).DivMod(number(a), number(b), new(big.Int))
			q, r, ok := DivMod(a, b)
			if !ok || number(q).Cmp(wantQ) != 0 || number(r).Cmp(wantR) != 0 {
				t.Errorf("DivMod(%v, %v) = %v, %v, %t, not %s, %s", a, b, q, r, ok, wantQ, wantR)
			}
		}
	}
}

// Promise 2.5.

func TestText(t *testing.T) {
	for _, r := range []struct {
		a    api.Wide
		want string
	}{
		{zero, "0"},
		{plus(7), "7"},
		{minus(7), "-7"},
		{plus(10), "10"},
		{minus(1 << 63), "-9223372036854775808"},
		{plus(9999999999999999999), "9999999999999999999"},
		{plus(10000000000000000000), "10000000000000000000"}, // 10^19
		{minus(10000000000000000001), "-10000000000000000001"},
		{plus(full), "18446744073709551615"},
		{plus(0x098a224000000000, 0x4b3b4ca85a86c47a), "100000000000000000000000000000000000000"}, // 10^38
		{plus(full, full, full, full), "115792089237316195423570985008687907853269984665640564039457584007913129639935"},
		{minus(full, full, full, full), "-115792089237316195423570985008687907853269984665640564039457584007913129639935"},
	} {
		if got := Text(r.a); got != r.want {
			t.Errorf("Text(%v) = %q, not %q", r.a, got, r.want)
		}
	}
	power := big.NewInt(1)
	for power.BitLen() <= 256 {
		for _, d := range []int64{-1, 0, 1} {
			x := new(big.Int).Add(power, big.NewInt(d))
			a, _ := wideOf(x)
			if got := Text(a); got != x.String() {
				t.Errorf("Text(%v) = %q, not %s", a, got, x)
			}
		}
		power.Mul(power, big.NewInt(10))
	}
	for _, a := range operands() {
		if got := Text(a); got != number(a).String() {
			t.Errorf("Text(%v) = %q", a, got)
		}
	}
}

// Promise 2.6.

// three calls f for random triples, of which half are small enough that no operation of the laws fails.
func three(f func(a, b, c api.Wide, small bool)) {
	random := rand.New(rand.NewSource(6))
	for i := range 20000 {
		a, b, c := randomWide(random), randomWide(random), randomWide(random)
		small := i%2 == 0
		if small {
			a, b, c = halved(a), halved(b), halved(c)
		}
		f(a, b, c, small)
	}
}

// halved keeps the words of a below 2^64.
func halved(a api.Wide) api.Wide {
	low := a.Mag[0]
	return api.Wide{Neg: a.Neg && low != 0, Mag: [4]uint64{low}}
}

// chain applies an operation to a result that may not exist.
func chain(f func(a, b api.Wide) (api.Wide, bool), a api.Wide, ok bool, b api.Wide) (api.Wide, bool) {
	if !ok {
		return api.Wide{}, false
	}
	return f(a, b)
}

func TestOrder(t *testing.T) {
	pairs(func(a, b api.Wide) {
		sum, ok := Add(a, b)
		if other, fits := Add(b, a); sum != other || ok != fits {
			t.Errorf("%v and %v have the sums %v, %t and %v, %t", a, b, sum, ok, other, fits)
		}
		product, ok := Mul(a, b)
		if other, fits := Mul(b, a); product != other || ok != fits {
			t.Errorf("%v and %v have the products %v, %t and %v, %t", a, b, product, ok, other, fits)
		}
		difference, ok := Sub(a, b)
		if back, fits := chain(Add, difference, ok, b); ok && (back != a || !fits) {
			t.Errorf("%v - %v + %v = %v, %t", a, b, b, back, fits)
		}
	})
}

func TestGrouping(t *testing.T) {
	for name, f := range map[string]func(a, b api.Wide) (api.Wide, bool){"Add": Add, "Mul": Mul} {
		three(func(a, b, c api.Wide, small bool) {
			ab, ok := f(a, b)
			left, leftOK := chain(f, ab, ok, c)
			bc, ok := f(b, c)
			right, rightOK := chain(f, bc, ok, a)
			if small && (!leftOK || !rightOK) {
				t.Errorf("%s of %v, %v, %v fails", name, a, b, c)
			}
			if leftOK && rightOK && left != right {
				t.Errorf("%s of %v, %v, %v is %v and %v", name, a, b, c, left, right)
			}
		})
	}
}

func TestDistribution(t *testing.T) {
	three(func(a, b, c api.Wide, small bool) {
		sum, ok := Add(b, c)
		left, leftOK := chain(Mul, sum, ok, a)
		ab, abOK := Mul(a, b)
		ac, acOK := Mul(a, c)
		right, rightOK := chain(Add, ab, abOK && acOK, ac)
		if small && (!leftOK || !rightOK) {
			t.Errorf("%v times %v and %v fails", a, b, c)
		}
		if leftOK && rightOK && left != right {
			t.Errorf("%v times %v and %v is %v and %v", a, b, c, left, right)
		}
	})
}

// Rule R3: the arguments are values, and the arrays in them, too.

func TestArgumentsStay(t *testing.T) {
	a, b := plus(1, 2, 3, 4), minus(full, 1<<63, 7)
	Add(a, b)
	Sub(a, b)
	Mul(a, b)
	DivMod(a, b)
	Text(a)
	Neg(b)
	if a != plus(1, 2, 3, 4) || b != minus(full, 1<<63, 7) {
		t.Errorf("%v, %v", a, b)
	}
}
