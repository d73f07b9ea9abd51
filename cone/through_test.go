package cone

import (
	"math/big"
	"math/rand"
	"testing"

	"tscodec/api"
	"tscodec/ratio"
	"tscodec/simplest"
	"tscodec/wide"
)

// point is what Through is given.
type point struct {
	base   api.Wide
	v, eps int64
	dt     uint64
}

// through calls Through for a point.
func through(p point) (api.Cone, bool) {
	return Through(p.base, p.v, p.eps, p.dt)
}

// rise returns v - base without bounds.
func (p point) rise() *big.Int {
	return new(big.Int).Sub(big.NewInt(p.v), number(p.base))
}

// over returns a / dt without bounds.
func (p point) over(a *big.Int) *big.Rat {
	return new(big.Rat).SetFrac(a, new(big.Int).SetUint64(p.dt))
}

// cone returns what Through is to return, by numbers without bounds.
func (p point) cone() api.Cone {
	eps := big.NewInt(p.eps)
	lo, hi := new(big.Int).Sub(p.rise(), eps), new(big.Int).Add(p.rise(), eps)
	return api.Cone{Lo: fraction(p.over(lo)), Hi: fraction(p.over(hi))}
}

// keeps says whether base + s dt differs from v by at most eps, without rounding.
func (p point) keeps(s api.Ratio) bool {
	away := new(big.Rat).SetInt(new(big.Int).SetUint64(p.dt))
	away.Mul(away, rational(s)).Sub(away, new(big.Rat).SetInt(p.rise()))
	return away.Abs(away).Cmp(new(big.Rat).SetInt64(p.eps)) <= 0
}

// keepsRounded says the same of what ratio.At makes of s dt.
func (p point) keepsRounded(s api.Ratio) bool {
	away := new(big.Int).Sub(number(ratio.At(s, p.dt)), p.rise())
	return away.CmpAbs(big.NewInt(p.eps)) <= 0
}

// random64 returns a number, of few bits as often as of many.
func random64(random *rand.Rand) uint64 {
	return random.Uint64() >> random.Intn(64)
}

// points calls f for points at the limits and for random ones.
func points(f func(p point)) {
	values := []int64{least, least + 1, -1, 0, 1, 7, greatest - 1, greatest}
	bases := []api.Wide{{}, one, wide.Of(-3), wide.Of(least), wide.Of(greatest), plus(0, 1), minus(0, 1), lastBase, wide.Neg(lastBase)}
	for _, base := range bases {
		for _, v := range values {
			for _, eps := range []int64{0, 1, 2, 10, 1<<32 + 1, api.MaxTolerance - 1, api.MaxTolerance} {
				for _, dt := range []uint64{1, 2, 3, 6, 1000, 1 << 32, 1 << 63, full - 1, full} {
					f(point{base, v, eps, dt})
				}
			}
		}
	}
	random := rand.New(rand.NewSource(134))
	for range 5000 {
		base := plus(random64(random), uint64(random.Intn(8)%4))
		if random.Intn(2) == 0 {
			base = wide.Neg(base)
		}
		f(point{base, int64(random.Uint64()) >> random.Intn(64), int64(random64(random) >> 2), max(1, random64(random))})
	}
}

// near returns valid fractions around a: a itself, and some that are a little less or greater.
func near(a api.Ratio) []api.Ratio {
	list := []api.Ratio{a}
	for _, den := range []*big.Int{big.NewInt(1), big.NewInt(7), number(a.Den), new(big.Int).Mul(number(a.Den), big.NewInt(1<<55))} {
		for _, num := range []int64{-1, 1} {
			step := new(big.Rat).SetFrac(big.NewInt(num), den)
			if b := fraction(step.Add(step, rational(a))); fits(b) {
				list = append(list, b)
			}
		}
	}
	return list
}

// Promise 13.2.

func TestThrough(t *testing.T) {
	for _, x := range []struct {
		p    point
		want api.Cone
	}{
		{point{wide.Of(10), 20, 2, 4}, between(2, 1, 3, 1)},
		{point{wide.Of(10), 0, 2, 4}, between(-3, 1, -2, 1)},
		{point{wide.Of(0), 1, 0, 3}, between(1, 3, 1, 3)},
		{point{wide.Of(5), 5, 1, 1}, between(-1, 1, 1, 1)},
		{point{wide.Of(5), 5, 0, 9}, between(0, 1, 0, 1)},
		{point{wide.Of(5), 0, 3, 10}, between(-4, 5, -1, 5)},
		{point{wide.Of(-5), 7, 2, 8}, between(5, 4, 7, 4)},
		{point{wide.Of(greatest), greatest, 0, full}, between(0, 1, 0, 1)},
		{point{wide.Of(least), greatest, 0, full}, between(1, 1, 1, 1)},
		{point{wide.Of(greatest), least, 0, full}, between(-1, 1, -1, 1)},
		{point{wide.Of(0), 0, api.MaxTolerance, 1}, between(-1<<62, 1, 1<<62, 1)},
		{point{wide.Of(0), 0, api.MaxTolerance, 1 << 62}, between(-1, 1, 1, 1)},
		{point{wide.Of(0), 0, 1, 1 << 63}, api.Cone{Lo: api.Ratio{Num: minus(1), Den: plus(1 << 63)}, Hi: api.Ratio{Num: one, Den: plus(1 << 63)}}},
		// base at its limits: 2^66 - 1, and -(2^66 - 1).
		{point{lastBase, -1, 0, 1}, api.Cone{Lo: api.Ratio{Num: wide.Neg(limit), Den: one}, Hi: api.Ratio{Num: wide.Neg(limit), Den: one}}},
		{point{wide.Neg(lastBase), 1, 1, 1}, api.Cone{Lo: api.Ratio{Num: lastBase, Den: one}, Hi: api.Ratio{Num: plus(1, 4), Den: one}}},
		{point{lastBase, least, api.MaxTolerance, 1}, api.Cone{Lo: api.Ratio{Num: minus(1<<63+1<<62-1, 4), Den: one}, Hi: api.Ratio{Num: minus(1<<62-1, 4), Den: one}}},
		{point{wide.Neg(lastBase), greatest, api.MaxTolerance, full}, api.Cone{Lo: api.Ratio{Num: plus((1<<64+1<<62-2)/3, 1), Den: plus(full / 3)}, Hi: api.Ratio{Num: plus(1<<63+1<<62-2, 4), Den: plus(full)}}},
	} {
		if got, ok := through(x.p); got != x.want || !ok {
			t.Errorf("Through(%v) = %v, %t, not %v", x.p, got, ok, x.want)
		}
	}
}

func TestThroughOfAll(t *testing.T) {
	points(func(p point) {
		got, ok := through(p)
		if want := p.cone(); got != want || !ok {
			t.Errorf("Through(%v) = %v, %t, not %v", p, got, ok, want)
		}
		if !Valid(got) || got.Open {
			t.Errorf("Through(%v) = %v is open or not valid", p, got)
		}
	})
}

// TestThroughHasTheSlopesThatFit asks whether a line with a slope is within eps of v, whatever the ends of the cone are.
func TestThroughHasTheSlopesThatFit(t *testing.T) {
	counts := map[bool]int{}
	points(func(p point) {
		got, _ := through(p)
		for _, end := range []api.Ratio{got.Lo, got.Hi} {
			for _, s := range near(end) {
				want := p.keeps(s)
				counts[want]++
				if Contains(got, s) != want {
					t.Errorf("Through(%v) = %v; %v keeps the tolerance: %t", p, got, s, want)
				}
			}
		}
	})
	if counts[true] < 10000 || counts[false] < 10000 {
		t.Errorf("%v: too few of one kind", counts)
	}
}

func TestThroughWithoutResult(t *testing.T) {
	bases := []api.Wide{
		negative0, limit, wide.Neg(limit), plus(1, 4), plus(0, 5), plus(0, 8), plus(0, 1<<63), plus(0, 0, 1), plus(0, 0, 0, 1),
		minus(0, 0, 1), minus(0, 0, 0, 1<<63), plus(full, full, full, full), minus(full, full, full, full),
	}
	tolerances := []int64{-1, -2, least, least + 1, api.MaxTolerance + 1, greatest}
	for _, v := range []int64{least, -5, 0, 5, greatest} {
		for _, good := range []point{{wide.Of(0), v, 0, 1}, {wide.Of(v), v, 3, 7}, {lastBase, v, api.MaxTolerance, full}} {
			if _, ok := through(good); !ok {
				t.Errorf("Through(%v) has no result", good)
			}
			refuse(t, point{good.base, v, good.eps, 0})
			for _, base := range bases {
				refuse(t, point{base, v, good.eps, good.dt})
				refuse(t, point{base, v, good.eps, 0})
			}
			for _, eps := range tolerances {
				refuse(t, point{good.base, v, eps, good.dt})
				refuse(t, point{good.base, v, eps, 0})
				refuse(t, point{limit, v, eps, good.dt})
			}
		}
	}
}

// refuse demands that Through has no result.
func refuse(t *testing.T, p point) {
	t.Helper()
	if got, ok := through(p); got != none || ok {
		t.Errorf("Through(%v) = %v, %t", p, got, ok)
	}
}

// Promise 13.4, for Through.

// TestSlopesKeepTheTolerance takes the ends of a cone, the slope that is chosen, and some in between.
func TestSlopesKeepTheTolerance(t *testing.T) {
	points(func(p point) {
		c, _ := through(p)
		middle := new(big.Rat).Add(rational(c.Lo), rational(c.Hi))
		list := append(near(c.Lo), near(c.Hi)...)
		for _, s := range append(list, Choose(c), fraction(middle.Quo(middle, big.NewRat(2, 1)))) {
			if Contains(c, s) && !p.keepsRounded(s) {
				t.Errorf("%v: %v gives %v", p, s, ratio.At(s, p.dt))
			}
		}
	})
}

// TestCommonSlopesKeepTheTolerance lets cones from one base meet: what is chosen fits all points.
func TestCommonSlopesKeepTheTolerance(t *testing.T) {
	random := rand.New(rand.NewSource(135))
	met := 0
	for range 3000 {
		base := int64(random.Uint64()) >> random.Intn(64) / 2
		eps := int64(random64(random) >> 2)
		slope := int64(random.Intn(7) - 3)
		c := Start()
		var kept []point
		for i := range 1 + random.Intn(5) {
			v := base + slope*int64(i+1) + int64(random64(random)>>2)%(eps/2+1)
			p := point{wide.Of(base), v, eps, uint64(i + 1)}
			fitting, _ := through(p)
			next, ok := Meet(c, fitting)
			if !ok {
				break
			}
			c, kept = next, append(kept, p)
		}
		if len(kept) > 1 {
			met++
		}
		chosen := Choose(c)
		for _, p := range kept {
			if !p.keeps(chosen) || !p.keepsRounded(chosen) || !p.keepsRounded(c.Lo) || !p.keepsRounded(c.Hi) {
				t.Errorf("%v: a slope of %v does not fit", p, c)
			}
			if all, _ := through(p); simplest.Simpler(chosen, Choose(all)) {
				t.Errorf("%v: a part of its cone has the simpler slope %v", p, chosen)
			}
		}
	}
	if met < 1000 {
		t.Errorf("only %d of the cones meet", met)
	}
}
