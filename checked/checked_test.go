package checked

import (
	"math"
	"math/big"
	"testing"
)

const (
	least    = math.MinInt64
	greatest = math.MaxInt64
)

// operands are all small numbers, those around powers of two, and both ends of the range.
func operands() []int64 {
	var l []int64
	for v := int64(-9); v <= 9; v++ {
		l = append(l, v)
	}
	for _, shift := range []int{15, 31, 32, 33, 61, 62} {
		power := int64(1) << shift
		l = append(l, power-1, power, power+1, -power-1, -power, -power+1)
	}
	l = append(l, 3037000499, 3037000500, -3037000499, -3037000500) // around the root of 2^63
	l = append(l, greatest/3, least/3, greatest/2, least/2)
	return append(l, least, least+1, least+2, greatest-2, greatest-1, greatest)
}

// pairs calls f for each two operands.
func pairs(f func(a, b int64)) {
	for _, a := range operands() {
		for _, b := range operands() {
			f(a, b)
		}
	}
}

// exact is a result as a number without bounds.
type exact func(x, y *big.Int) *big.Int

// compare demands the exact result where it exists and is an int64, and otherwise 0 and false.
func compare(t *testing.T, name string, f func(a, b int64) (int64, bool), want exact) {
	t.Helper()
	pairs(func(a, b int64) {
		got, ok := f(a, b)
		number := want(big.NewInt(a), big.NewInt(b))
		if number == nil || !number.IsInt64() {
			if ok || got != 0 {
				t.Errorf("%s(%d, %d) = %d, %t, not 0, false", name, a, b, got, ok)
			}
			return
		}
		if !ok || got != number.Int64() {
			t.Errorf("%s(%d, %d) = %d, %t, not %d, true", name, a, b, got, ok, number)
		}
	})
}

// floorQuotient is x / y rounded down, or nil if y is 0.
func floorQuotient(x, y *big.Int) *big.Int {
	if y.Sign() == 0 {
		return nil
	}
	// Div of package big rounds down only for a positive divisor.
	if y.Sign() < 0 {
		x, y = new(big.Int).Neg(x), new(big.Int).Neg(y)
	}
	return new(big.Int).Div(x, y)
}

// ceilQuotient is x / y rounded up, or nil if y is 0.
func ceilQuotient(x, y *big.Int) *big.Int {
	down := floorQuotient(new(big.Int).Neg(x), y)
	if down == nil {
		return nil
	}
	return down.Neg(down)
}

// floorRest is x minus y times floorQuotient, or nil if y is 0.
func floorRest(x, y *big.Int) *big.Int {
	down := floorQuotient(x, y)
	if down == nil {
		return nil
	}
	return new(big.Int).Sub(x, down.Mul(down, y))
}

// row is a call with two arguments and what it returns.
type row struct {
	a, b, want int64
	ok         bool
}

// check demands the results of the rows.
func check(t *testing.T, name string, f func(a, b int64) (int64, bool), rows []row) {
	t.Helper()
	for _, r := range rows {
		if got, ok := f(r.a, r.b); got != r.want || ok != r.ok {
			t.Errorf("%s(%d, %d) = %d, %t, not %d, %t", name, r.a, r.b, got, ok, r.want, r.ok)
		}
	}
}

// Promise 1.1.

func TestAdd(t *testing.T) {
	check(t, "Add", Add, []row{
		{2, 3, 5, true},
		{-2, 3, 1, true},
		{0, 0, 0, true},
		{greatest, 0, greatest, true},
		{greatest, 1, 0, false},
		{1, greatest, 0, false},
		{greatest, greatest, 0, false},
		{greatest, -1, greatest - 1, true},
		{greatest, least, -1, true},
		{least, 0, least, true},
		{least, 1, least + 1, true},
		{least, -1, 0, false},
		{least, least, 0, false}, // wraps to 0
		{1 << 62, 1 << 62, 0, false},
		{-1 << 62, -1 << 62, least, true},
	})
	compare(t, "Add", Add, func(x, y *big.Int) *big.Int { return new(big.Int).Add(x, y) })
}

func TestSub(t *testing.T) {
	check(t, "Sub", Sub, []row{
		{2, 3, -1, true},
		{-2, 3, -5, true},
		{5, 5, 0, true},
		{0, least, 0, false},
		{-1, least, greatest, true},
		{0, greatest, least + 1, true},
		{-1, greatest, least, true},
		{-2, greatest, 0, false},
		{least, 1, 0, false},
		{greatest, -1, 0, false},
		{least, least, 0, true},
		{greatest, greatest, 0, true},
		{least, greatest, 0, false},
		{greatest, least, 0, false},
	})
	compare(t, "Sub", Sub, func(x, y *big.Int) *big.Int { return new(big.Int).Sub(x, y) })
}

func TestMul(t *testing.T) {
	check(t, "Mul", Mul, []row{
		{6, 7, 42, true},
		{-6, 7, -42, true},
		{-6, -7, 42, true},
		{0, least, 0, true},
		{least, 0, 0, true},
		{least, 1, least, true},
		{1, least, least, true},
		{least, -1, 0, false},
		{-1, least, 0, false},
		{greatest, -1, least + 1, true},
		{-1, greatest, least + 1, true},
		{1 << 32, 1 << 31, 0, false},
		{1 << 32, -1 << 31, least, true},
		{-1 << 32, 1 << 31, least, true},
		{-1 << 32, -1 << 31, 0, false},
		{1 << 32, 1 << 32, 0, false}, // wraps to 0
		{3037000499, 3037000499, 9223372030926249001, true},
		{3037000500, 3037000500, 0, false},
		{greatest, 2, 0, false},
		{greatest, greatest, 0, false}, // wraps to 1
		{least, least, 0, false},
	})
	compare(t, "Mul", Mul, func(x, y *big.Int) *big.Int { return new(big.Int).Mul(x, y) })
}

// Promise 1.2.

func TestDistance(t *testing.T) {
	for _, r := range []struct {
		a, b int64
		want uint64
	}{
		{3, 5, 2},
		{5, 3, 2},
		{-3, 5, 8},
		{7, 7, 0},
		{least, least, 0},
		{least, 0, 1 << 63},
		{0, least, 1 << 63},
		{0, greatest, 1<<63 - 1},
		{least, greatest, math.MaxUint64},
		{greatest, least, math.MaxUint64},
	} {
		if got := Distance(r.a, r.b); got != r.want {
			t.Errorf("Distance(%d, %d) = %d, not %d", r.a, r.b, got, r.want)
		}
	}
	pairs(func(a, b int64) {
		want := new(big.Int).Sub(big.NewInt(a), big.NewInt(b))
		if got := Distance(a, b); got != want.Abs(want).Uint64() {
			t.Errorf("Distance(%d, %d) = %d, not %d", a, b, got, want)
		}
	})
}

func TestDiff(t *testing.T) {
	for _, r := range []struct {
		a, b int64
		want uint64
	}{
		{5, 3, 2},
		{3, 5, math.MaxUint64 - 1},
		{7, 7, 0},
		{greatest, least, math.MaxUint64},
		{least, greatest, 1},
		{least, 0, 1 << 63},
		{0, least, 1 << 63},
	} {
		if got := Diff(r.a, r.b); got != r.want {
			t.Errorf("Diff(%d, %d) = %d, not %d", r.a, r.b, got, r.want)
		}
	}
	modulus := new(big.Int).Lsh(big.NewInt(1), 64)
	pairs(func(a, b int64) {
		want := new(big.Int).Sub(big.NewInt(a), big.NewInt(b))
		if got := Diff(a, b); got != want.Mod(want, modulus).Uint64() {
			t.Errorf("Diff(%d, %d) = %d, not %d", a, b, got, want)
		}
	})
}

func TestApply(t *testing.T) {
	for _, r := range []struct {
		a    int64
		d    uint64
		want int64
	}{
		{3, 2, 5},
		{3, 0, 3},
		{5, math.MaxUint64 - 1, 3},
		{0, math.MaxUint64, -1},
		{greatest, 1, least},
		{least, math.MaxUint64, greatest},
		{least, 1 << 63, 0},
		{0, 1 << 63, least},
		{-1, 1 << 63, greatest},
	} {
		if got := Apply(r.a, r.d); got != r.want {
			t.Errorf("Apply(%d, %d) = %d, not %d", r.a, r.d, got, r.want)
		}
	}
	modulus := new(big.Int).Lsh(big.NewInt(1), 64)
	pairs(func(a, b int64) {
		d := uint64(b)
		want := new(big.Int).Add(big.NewInt(a), new(big.Int).SetUint64(d))
		want.Mod(want, modulus)
		// Comparing bit patterns compares the numbers modulo 2^64.
		if got := Apply(a, d); uint64(got) != want.Uint64() {
			t.Errorf("Apply(%d, %d) = %d, not %d modulo 2^64", a, d, got, want)
		}
	})
}

// Promise 1.3.

func TestFloorDiv(t *testing.T) {
	check(t, "FloorDiv", FloorDiv, []row{
		{7, 2, 3, true},
		{-7, 2, -4, true},
		{7, -2, -4, true},
		{-7, -2, 3, true},
		{-8, 2, -4, true},
		{0, -5, 0, true},
		{1, greatest, 0, true},
		{-1, greatest, -1, true},
		{1, least, -1, true},
		{-1, least, 0, true},
		{5, 0, 0, false},
		{0, 0, 0, false},
		{least, 0, 0, false},
		{least, -1, 0, false},
		{least, 1, least, true},
		{least + 1, -1, greatest, true},
		{greatest, -1, least + 1, true},
		{least, 2, -1 << 62, true},
		{least, greatest, -2, true},
		{greatest, least, -1, true},
		{least, least, 1, true},
	})
	compare(t, "FloorDiv", FloorDiv, floorQuotient)
}

func TestCeilDiv(t *testing.T) {
	check(t, "CeilDiv", CeilDiv, []row{
		{7, 2, 4, true},
		{-7, 2, -3, true},
		{7, -2, -3, true},
		{-7, -2, 4, true},
		{8, 2, 4, true},
		{0, -5, 0, true},
		{1, greatest, 1, true},
		{-1, greatest, 0, true},
		{1, least, 0, true},
		{-1, least, 1, true},
		{5, 0, 0, false},
		{0, 0, 0, false},
		{least, 0, 0, false},
		{least, -1, 0, false},
		{least, 1, least, true},
		{least + 1, -1, greatest, true},
		{greatest, 2, 1 << 62, true},
		{least, greatest, -1, true},
		{greatest, least, 0, true},
		{least, least, 1, true},
	})
	compare(t, "CeilDiv", CeilDiv, ceilQuotient)
}

func TestFloorMod(t *testing.T) {
	check(t, "FloorMod", FloorMod, []row{
		{7, 2, 1, true},
		{-7, 2, 1, true},
		{7, -2, -1, true},
		{-7, -2, -1, true},
		{-8, 2, 0, true},
		{5, 0, 0, false},
		{0, 0, 0, false},
		{least, 0, 0, false},
		{least, -1, 0, true}, // the rest exists although the quotient does not
		{least, greatest, greatest - 1, true},
		{greatest, least, -1, true},
		{-1, greatest, greatest - 1, true},
		{1, least, least + 1, true},
		{-1, least, -1, true},
		{least, least, 0, true},
	})
	compare(t, "FloorMod", FloorMod, floorRest)
}

// Promise 1.4.

func TestMid(t *testing.T) {
	for _, r := range []struct{ a, b, want int64 }{
		{2, 4, 3},
		{2, 5, 3},
		{0, -3, -2},
		{-3, 0, -2},
		{-3, -4, -4},
		{6, 6, 6},
		{least, greatest, -1},
		{greatest, least, -1},
		{greatest, greatest, greatest},
		{greatest, greatest - 1, greatest - 1},
		{least, least, least},
		{least, least + 1, least},
		{least, 0, -1 << 62},
		{0, greatest, 1<<62 - 1},
	} {
		if got := Mid(r.a, r.b); got != r.want {
			t.Errorf("Mid(%d, %d) = %d, not %d", r.a, r.b, got, r.want)
		}
	}
	pairs(func(a, b int64) {
		want := new(big.Int).Add(big.NewInt(a), big.NewInt(b))
		want = floorQuotient(want, big.NewInt(2))
		if got := Mid(a, b); got != want.Int64() {
			t.Errorf("Mid(%d, %d) = %d, not %d", a, b, got, want)
		}
	})
}

func TestNear(t *testing.T) {
	for _, r := range []struct {
		a, b, eps int64
		want      bool
	}{
		{3, 5, 2, true},
		{5, 3, 2, true},
		{3, 5, 1, false},
		{-1, 1, 2, true},
		{4, 4, 0, true},
		{4, 5, 0, false},
		{4, 4, -1, false},
		{4, 4, least, false},
		{3, 5, -2, false},
		{0, greatest, greatest, true},
		{-1, greatest, greatest, false},
		{0, least, greatest, false},
		{-1, least, greatest, true},
		{least, greatest, greatest, false},
		{least, greatest, -1, false}, // the distance and -1 have the same bits
		{least, least, 0, true},
	} {
		if got := Near(r.a, r.b, r.eps); got != r.want {
			t.Errorf("Near(%d, %d, %d) = %t, not %t", r.a, r.b, r.eps, got, r.want)
		}
	}
	pairs(func(a, b int64) {
		distance := new(big.Int).Sub(big.NewInt(a), big.NewInt(b))
		distance.Abs(distance)
		for _, eps := range operands() {
			want := eps >= 0 && distance.Cmp(big.NewInt(eps)) <= 0
			if got := Near(a, b, eps); got != want {
				t.Errorf("Near(%d, %d, %d) = %t, not %t", a, b, eps, got, want)
			}
		}
	})
}

// Promise 1.5.

func TestApplyUndoesDiff(t *testing.T) {
	pairs(func(a, b int64) {
		if got := Apply(b, Diff(a, b)); got != a {
			t.Errorf("Apply(%d, Diff(%d, %d)) = %d", b, a, b, got)
		}
	})
}

func TestQuotientAndRest(t *testing.T) {
	pairs(func(a, b int64) {
		q, ok := FloorDiv(a, b)
		if !ok {
			return
		}
		r, ok := FloorMod(a, b)
		if !ok || b*q+r != a {
			t.Errorf("%d is not %d * %d + %d (%t)", a, b, q, r, ok)
		}
		if r != 0 && ((r < 0) != (b < 0) || Distance(r, 0) >= Distance(b, 0)) {
			t.Errorf("%d is no rest of a division by %d", r, b)
		}
		up, ok := CeilDiv(a, b)
		if !ok || (r == 0 && up != q) || (r != 0 && up != q+1) {
			t.Errorf("CeilDiv(%d, %d) = %d, %t beside the quotient %d and the rest %d", a, b, up, ok, q, r)
		}
	})
}

func TestMidIsBetweenAndNear(t *testing.T) {
	pairs(func(a, b int64) {
		mid := Mid(a, b)
		if mid < min(a, b) || mid > max(a, b) {
			t.Errorf("Mid(%d, %d) = %d is not between them", a, b, mid)
		}
		distance := Distance(a, b)
		half := distance/2 + distance%2
		if half > greatest {
			return
		}
		if !Near(mid, a, int64(half)) || !Near(mid, b, int64(half)) {
			t.Errorf("Mid(%d, %d) = %d is not within %d of both", a, b, mid, half)
		}
	})
}
