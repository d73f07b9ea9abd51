package cone

import (
	"math"
	"math/big"
	"math/rand"
	"testing"

	"tscodec/api"
	"tscodec/ratio"
	"tscodec/simplest"
	"tscodec/wide"
)

const (
	least    = math.MinInt64
	greatest = math.MaxInt64
	full     = math.MaxUint64 // a word with all bits
)

// none is what stands beside false, and is itself no valid cone.
var none = api.Cone{}

var (
	open      = api.Cone{Open: true}
	one       = wide.Of(1)
	most      = plus(full, 1<<63-1) // the greatest absolute value in a valid fraction
	below     = plus(full-1, 1<<63-1)
	limit     = plus(0, 4) // 2^66
	lastBase  = plus(full, 3)
	negative0 = api.Wide{Neg: true} // the one Wide that is not valid
)

// plus and minus return a Wide with the words of an absolute value, the least significant one first.
func plus(mag ...uint64) api.Wide {
	var a api.Wide
	copy(a.Mag[:], mag)
	return a
}

func minus(mag ...uint64) api.Wide {
	a := plus(mag...)
	a.Neg = true
	return a
}

// over returns the struct of two small numbers, in lowest terms or not.
func over(num, den int64) api.Ratio {
	return api.Ratio{Num: wide.Of(num), Den: wide.Of(den)}
}

// between returns the cone of small numbers, a / b to c / d.
func between(a, b, c, d int64) api.Cone {
	return api.Cone{Lo: over(a, b), Hi: over(c, d)}
}

// number returns the number of a Wide without bounds.
func number(a api.Wide) *big.Int {
	x := new(big.Int)
	for i := len(a.Mag) - 1; i >= 0; i-- {
		x.Lsh(x, 64)
		x.Or(x, new(big.Int).SetUint64(a.Mag[i]))
	}
	if a.Neg {
		x.Neg(x)
	}
	return x
}

// wideOf returns the Wide of a number of at most 256 bits.
func wideOf(x *big.Int) api.Wide {
	a := api.Wide{Neg: x.Sign() < 0}
	rest, word := new(big.Int).Abs(x), new(big.Int).SetUint64(full)
	for i := range a.Mag {
		a.Mag[i] = new(big.Int).And(rest, word).Uint64()
		rest.Rsh(rest, 64)
	}
	return a
}

// rational returns the number of a valid fraction without bounds.
func rational(a api.Ratio) *big.Rat {
	return new(big.Rat).SetFrac(number(a.Num), number(a.Den))
}

// fraction returns the struct of a number without bounds; it may have too many bits to be valid.
func fraction(x *big.Rat) api.Ratio {
	return api.Ratio{Num: wideOf(x.Num()), Den: wideOf(x.Denom())}
}

// fits says whether a is a valid fraction, by numbers without bounds.
func fits(a api.Ratio) bool {
	if a.Num == negative0 || a.Den == negative0 || number(a.Den).Sign() <= 0 {
		return false
	}
	x := rational(a)
	return x.Num().BitLen() <= 127 && x.Denom().BitLen() <= 127 && fraction(x) == a
}

// valid says whether c is a valid cone, by numbers without bounds.
func valid(c api.Cone) bool {
	if c.Open {
		return c.Lo == api.Ratio{} && c.Hi == api.Ratio{}
	}
	return fits(c.Lo) && fits(c.Hi) && rational(c.Lo).Cmp(rational(c.Hi)) <= 0
}

// has says whether a valid cone has a valid slope, by numbers without bounds.
func has(c api.Cone, s api.Ratio) bool {
	return c.Open || rational(c.Lo).Cmp(rational(s)) <= 0 && rational(s).Cmp(rational(c.Hi)) <= 0
}

// meet says what Meet is to return for valid cones.
func meet(a, b api.Cone) (api.Cone, bool) {
	if a.Open {
		return b, true
	}
	if b.Open {
		return a, true
	}
	for _, lo := range []api.Ratio{a.Lo, b.Lo} {
		for _, hi := range []api.Ratio{a.Hi, b.Hi} {
			// Of all pairs of ends, only the innermost one lies in both cones.
			if has(a, lo) && has(b, lo) && has(a, hi) && has(b, hi) {
				return api.Cone{Lo: lo, Hi: hi}, true
			}
		}
	}
	return none, false
}

// slopes are valid fractions: small ones, and some at the limits.
func slopes() []api.Ratio {
	list := []api.Ratio{
		{Num: most, Den: one}, {Num: below, Den: one}, {Num: one, Den: most}, {Num: one, Den: below},
		{Num: most, Den: below}, {Num: below, Den: most}, over(greatest, 2), over(2, greatest),
	}
	for _, a := range list {
		list = append(list, api.Ratio{Num: wide.Neg(a.Num), Den: a.Den})
	}
	for den := int64(1); den <= 4; den++ {
		for num := -2 * den; num <= 2*den; num++ {
			if a := over(num, den); fits(a) {
				list = append(list, a)
			}
		}
	}
	return append(list, over(least, 1), over(greatest, 1))
}

// cones are valid: the open one, and those between two of slopes.
func cones() []api.Cone {
	list := []api.Cone{open}
	for _, lo := range slopes() {
		for _, hi := range slopes() {
			if c := (api.Cone{Lo: lo, Hi: hi}); valid(c) {
				list = append(list, c)
			}
		}
	}
	return list
}

// invalidSlopes are fractions that break one or more of the conditions.
func invalidSlopes() []api.Ratio {
	return []api.Ratio{
		{},
		over(1, 0),
		over(2, 4),
		over(-6, 3),
		over(0, 2),
		over(0, -1),
		over(1, -1),
		over(-3, -2),
		{Num: negative0, Den: one},
		{Num: one, Den: negative0},
		{Num: plus(0, 1<<63), Den: one},
		{Num: minus(0, 1<<63), Den: one},
		{Num: one, Den: plus(0, 1<<63)},
		{Num: plus(full, full, full, full), Den: plus(full-1, full, full, full)},
	}
}

// invalidCones are cones that break one or more of the conditions.
func invalidCones() []api.Cone {
	list := []api.Cone{
		between(1, 2, 1, 3),
		between(1, 1, 0, 1),
		between(0, 1, -1, greatest),
		between(-1, 3, -1, 2),
		{Lo: api.Ratio{Num: one, Den: below}, Hi: api.Ratio{Num: one, Den: most}},
		{Lo: api.Ratio{Num: most, Den: one}, Hi: api.Ratio{Num: below, Den: one}},
	}
	for _, a := range []api.Ratio{over(0, 1), over(1, 2), over(1, 1), over(2, 4), over(0, 2), {Num: negative0}, {Den: one}} {
		list = append(list, api.Cone{Open: true, Lo: a}, api.Cone{Open: true, Hi: a}, api.Cone{Open: true, Lo: a, Hi: a})
	}
	for _, bad := range invalidSlopes() {
		list = append(list, api.Cone{Lo: bad, Hi: bad})
		for _, a := range []api.Ratio{over(-7, 1), over(0, 1), over(1, 2), over(7, 1)} {
			list = append(list, api.Cone{Lo: bad, Hi: a}, api.Cone{Lo: a, Hi: bad})
		}
	}
	return list
}

// Promise 13.1.

func TestStart(t *testing.T) {
	if got := Start(); got != open || !Valid(got) {
		t.Errorf("Start() = %v", got)
	}
}

func TestValid(t *testing.T) {
	for _, c := range []api.Cone{
		open,
		between(0, 1, 0, 1),
		between(1, 2, 1, 2),
		between(1, 3, 1, 2),
		between(-1, 2, -1, 3),
		between(-3, 1, 4, 7),
		between(least, 1, greatest, 1),
		{Lo: api.Ratio{Num: wide.Neg(most), Den: one}, Hi: api.Ratio{Num: most, Den: one}},
		{Lo: api.Ratio{Num: one, Den: most}, Hi: api.Ratio{Num: one, Den: below}},
		{Lo: api.Ratio{Num: most, Den: below}, Hi: api.Ratio{Num: most, Den: below}},
	} {
		if !Valid(c) {
			t.Errorf("%v is not valid", c)
		}
	}
	for _, c := range invalidCones() {
		if Valid(c) {
			t.Errorf("%v is valid", c)
		}
		if valid(c) {
			t.Errorf("%v is valid by the test", c)
		}
	}
}

func TestValidOfAll(t *testing.T) {
	list := append(slopes(), invalidSlopes()...)
	for _, lo := range list {
		for _, hi := range list {
			for _, c := range []api.Cone{{Lo: lo, Hi: hi}, {Open: true, Lo: lo, Hi: hi}} {
				if got := Valid(c); got != valid(c) {
					t.Errorf("Valid(%v) = %t", c, got)
				}
			}
		}
	}
}

func TestContains(t *testing.T) {
	for _, x := range []struct {
		c    api.Cone
		s    api.Ratio
		want bool
	}{
		{between(1, 3, 1, 2), over(1, 3), true},
		{between(1, 3, 1, 2), over(1, 2), true},
		{between(1, 3, 1, 2), over(2, 5), true},
		{between(1, 3, 1, 2), over(33, 100), false},
		{between(1, 3, 1, 2), over(51, 100), false},
		{between(1, 3, 1, 2), over(-2, 5), false},
		{between(1, 3, 1, 2), over(0, 1), false},
		{between(-1, 1, 1, 1), over(0, 1), true},
		{between(-1, 1, 1, 1), over(2, 1), false},
		{between(-1, 1, 1, 1), over(-2, 1), false},
		{between(5, 7, 5, 7), over(5, 7), true},
		{between(5, 7, 5, 7), over(4, 7), false},
		{between(5, 7, 5, 7), over(6, 7), false},
		{between(5, 7, 5, 7), over(10, 14), false},
		{between(0, 1, 1, 1), over(2, 4), false},
		{between(0, 1, 1, 1), over(0, 2), false},
		{between(0, 1, 1, 1), api.Ratio{}, false},
		{between(0, 1, 1, 1), api.Ratio{Num: one, Den: most}, true},
		{between(0, 1, 1, 1), api.Ratio{Num: wide.Of(-1), Den: most}, false},
		{between(0, 1, 1, 1), api.Ratio{Num: below, Den: most}, true},
		{between(0, 1, 1, 1), api.Ratio{Num: most, Den: below}, false},
		{open, over(0, 1), true},
		{open, over(-7, 3), true},
		{open, api.Ratio{Num: wide.Neg(most), Den: one}, true},
		{open, api.Ratio{}, false},
		{open, over(2, 4), false},
		{none, over(0, 1), false},
		{between(1, 1, 0, 1), over(1, 1), false},
		{between(1, 1, 0, 1), over(1, 2), false},
		{api.Cone{Open: true, Lo: over(0, 1), Hi: over(1, 1)}, over(1, 2), false},
	} {
		if got := Contains(x.c, x.s); got != x.want {
			t.Errorf("Contains(%v, %v) = %t", x.c, x.s, got)
		}
	}
}

func TestContainsOfAll(t *testing.T) {
	list := slopes()
	for _, c := range cones() {
		for _, s := range list {
			if got := Contains(c, s); got != has(c, s) {
				t.Errorf("Contains(%v, %v) = %t", c, s, got)
			}
		}
		for _, s := range invalidSlopes() {
			if Contains(c, s) {
				t.Errorf("%v contains %v", c, s)
			}
		}
	}
	for _, c := range invalidCones() {
		for _, s := range append(list, invalidSlopes()...) {
			if Contains(c, s) {
				t.Errorf("%v contains %v", c, s)
			}
		}
	}
}

// Promise 13.3.

func TestMeet(t *testing.T) {
	for _, x := range []struct {
		a, b, want api.Cone
		ok         bool
	}{
		{open, open, open, true},
		{open, between(1, 2, 3, 2), between(1, 2, 3, 2), true},
		{open, between(5, 7, 5, 7), between(5, 7, 5, 7), true},
		{between(1, 2, 3, 2), between(1, 2, 3, 2), between(1, 2, 3, 2), true},
		// One within the other, also with a common end.
		{between(0, 1, 1, 1), between(1, 3, 1, 2), between(1, 3, 1, 2), true},
		{between(0, 1, 1, 1), between(0, 1, 1, 2), between(0, 1, 1, 2), true},
		{between(0, 1, 1, 1), between(1, 2, 1, 1), between(1, 2, 1, 1), true},
		{between(0, 1, 1, 1), between(1, 2, 1, 2), between(1, 2, 1, 2), true},
		// Parts of both.
		{between(0, 1, 2, 3), between(1, 2, 5, 1), between(1, 2, 2, 3), true},
		{between(-2, 1, -1, 2), between(-1, 1, 3, 1), between(-1, 1, -1, 2), true},
		// A common end only.
		{between(0, 1, 1, 1), between(1, 1, 2, 1), between(1, 1, 1, 1), true},
		{between(-5, 2, -1, 3), between(-1, 3, 0, 1), between(-1, 3, -1, 3), true},
		{between(1, 2, 1, 2), between(1, 2, 1, 2), between(1, 2, 1, 2), true},
		// Nothing.
		{between(0, 1, 1, 2), between(2, 3, 1, 1), none, false},
		{between(-5, 1, -4, 1), between(4, 1, 5, 1), none, false},
		{between(1, 2, 1, 2), between(1, 3, 1, 3), none, false},
		{between(0, 1, greatest-1, greatest), between(1, 1, 2, 1), none, false},
		{
			api.Cone{Lo: over(0, 1), Hi: api.Ratio{Num: one, Den: most}},
			api.Cone{Lo: api.Ratio{Num: one, Den: below}, Hi: over(1, 1)}, none, false,
		},
		{
			api.Cone{Lo: over(0, 1), Hi: api.Ratio{Num: one, Den: below}},
			api.Cone{Lo: api.Ratio{Num: one, Den: most}, Hi: over(1, 1)},
			api.Cone{Lo: api.Ratio{Num: one, Den: most}, Hi: api.Ratio{Num: one, Den: below}}, true,
		},
	} {
		checkMeet(t, x.a, x.b, x.want, x.ok)
		checkMeet(t, x.b, x.a, x.want, x.ok)
	}
}

// checkMeet demands a result of Meet.
func checkMeet(t *testing.T, a, b, want api.Cone, is bool) {
	t.Helper()
	if got, ok := Meet(a, b); got != want || ok != is {
		t.Errorf("Meet(%v, %v) = %v, %t, not %v, %t", a, b, got, ok, want, is)
	}
}

func TestMeetOfAll(t *testing.T) {
	all := cones()
	counts := map[bool]int{}
	for i, a := range all {
		checkMeet(t, a, a, a, true)
		for j := i % 16; j < len(all); j += 16 { // a part of the pairs, another one in each turn: all of them take long
			want, is := meet(a, all[j])
			counts[is]++
			checkMeet(t, a, all[j], want, is)
		}
	}
	if counts[true] < 1000 || counts[false] < 1000 {
		t.Errorf("%v: too few of one result", counts)
	}
}

// TestMeetHasTheCommonSlopes asks for what is in both cones, whatever the ends are.
func TestMeetHasTheCommonSlopes(t *testing.T) {
	random := rand.New(rand.NewSource(131))
	all, list := cones(), slopes()
	for range 3000 {
		a, b := all[random.Intn(len(all))], all[random.Intn(len(all))]
		got, ok := Meet(a, b)
		if ok && !Valid(got) {
			t.Errorf("Meet(%v, %v) = %v is not valid", a, b, got)
		}
		for _, s := range list {
			if both := Contains(a, s) && Contains(b, s); Contains(got, s) != both {
				t.Errorf("Meet(%v, %v) = %v, %t; both have %v: %t", a, b, got, ok, s, both)
			}
		}
	}
}

// TestMeetInAnyOrder takes three cones: which two meet first makes no difference.
func TestMeetInAnyOrder(t *testing.T) {
	random := rand.New(rand.NewSource(132))
	all := cones()
	for range 3000 {
		a, b, c := all[random.Intn(len(all))], all[random.Intn(len(all))], all[random.Intn(len(all))]
		left, _ := Meet(a, b)
		left, leftOk := Meet(left, c)
		right, _ := Meet(b, c)
		right, rightOk := Meet(a, right)
		if left != right || leftOk != rightOk {
			t.Errorf("%v, %v, %v: %v, %t or %v, %t", a, b, c, left, leftOk, right, rightOk)
		}
	}
}

func TestMeetOfInvalid(t *testing.T) {
	for _, bad := range invalidCones() {
		for _, c := range append(invalidCones(), open, between(-9, 1, 9, 1), between(0, 1, 1, 1), between(1, 2, 1, 2)) {
			checkMeet(t, bad, c, none, false)
			checkMeet(t, c, bad, none, false)
		}
	}
}

func TestChoose(t *testing.T) {
	for _, x := range []struct {
		c    api.Cone
		want api.Ratio
	}{
		{open, over(0, 1)},
		{between(2, 1, 3, 1), over(2, 1)},
		{between(-3, 1, -2, 1), over(-2, 1)},
		{between(-1, 7, 5, 1), over(0, 1)},
		{between(0, 1, 5, 1), over(0, 1)},
		{between(-5, 1, 0, 1), over(0, 1)},
		{between(1, 3, 1, 2), over(1, 2)},
		{between(-7, 5, -4, 3), over(-4, 3)},
		{between(157, 50, 63, 20), over(22, 7)},
		{between(-63, 20, -157, 50), over(-22, 7)},
		{between(5, 7, 5, 7), over(5, 7)},
		{between(least, 1, greatest, 1), over(0, 1)},
		{between(least, 1, least, 1), over(least, 1)},
		{between(1, 3, greatest, 1), over(1, 1)},
		{api.Cone{Lo: api.Ratio{Num: one, Den: most}, Hi: api.Ratio{Num: one, Den: below}}, api.Ratio{Num: one, Den: below}},
		{none, api.Ratio{}},
		{between(3, 1, 2, 1), api.Ratio{}},
		{api.Cone{Open: true, Lo: over(2, 1), Hi: over(3, 1)}, api.Ratio{}},
		{api.Cone{Open: true, Lo: over(0, 1)}, api.Ratio{}},
		{between(2, 4, 1, 1), api.Ratio{}},
		{between(-1, 1, 0, 2), api.Ratio{}},
	} {
		if got := Choose(x.c); got != x.want {
			t.Errorf("Choose(%v) = %v, not %v", x.c, got, x.want)
		}
	}
	for _, c := range invalidCones() {
		if got := Choose(c); got != (api.Ratio{}) {
			t.Errorf("Choose(%v) = %v", c, got)
		}
	}
}

func TestChooseOfAll(t *testing.T) {
	for _, c := range cones()[1:] {
		want, _ := simplest.Between(c.Lo, c.Hi)
		if got := Choose(c); got != want {
			t.Errorf("Choose(%v) = %v, not %v", c, got, want)
		}
	}
}

// Promise 13.4, for Choose.

func TestNoSlopeIsSimpler(t *testing.T) {
	list := slopes()
	for _, c := range cones() {
		got := Choose(c)
		if !ratio.Valid(got) || !has(c, got) || !Contains(c, got) {
			t.Errorf("Choose(%v) = %v is not in it", c, got)
		}
		for _, s := range list {
			if s != got && has(c, s) && !simplest.Simpler(got, s) {
				t.Errorf("Choose(%v) = %v is not simpler than %v", c, got, s)
			}
		}
	}
}

// TestNoSmallSlopeIsSimpler looks at all slopes with smaller denominators, and at those of the same one nearer to 0.
func TestNoSmallSlopeIsSimpler(t *testing.T) {
	ends := []api.Ratio{over(-31, 10), over(-22, 7), over(-1, 11), over(1, 11), over(3, 29), over(16, 11), over(19, 13), over(22, 7)}
	for _, lo := range ends {
		for _, hi := range ends {
			c := api.Cone{Lo: lo, Hi: hi}
			if !valid(c) {
				continue
			}
			got := Choose(c)
			chosen := number(got.Den).Int64()
			for den := int64(1); den <= chosen; den++ {
				for num := -4 * den; num <= 4*den; num++ {
					if s := over(num, den); fits(s) && has(c, s) && simplest.Simpler(s, got) {
						t.Errorf("Choose(%v) = %v, but %v is simpler", c, got, s)
					}
				}
			}
		}
	}
}

// Rule R1: anything may be an argument.

// anyWide returns a Wide of words that are often 0 or 1, with a sign.
func anyWide(random *rand.Rand) api.Wide {
	a := api.Wide{Neg: random.Intn(4) == 0}
	for i := range a.Mag {
		switch random.Intn(2 + 4*i) {
		case 0:
			a.Mag[i] = random.Uint64() >> random.Intn(64)
		case 1:
			a.Mag[i] = 1
		}
	}
	return a
}

func anyCone(random *rand.Rand) api.Cone {
	c := api.Cone{Open: random.Intn(8) == 0}
	if random.Intn(8) > 0 {
		c.Lo, c.Hi = api.Ratio{Num: anyWide(random), Den: anyWide(random)}, api.Ratio{Num: anyWide(random), Den: anyWide(random)}
	}
	return c
}

func TestAnyCone(t *testing.T) {
	random := rand.New(rand.NewSource(133))
	counts := map[bool]int{}
	for range 20000 {
		a, b, s := anyCone(random), anyCone(random), api.Ratio{Num: anyWide(random), Den: anyWide(random)}
		is := valid(a)
		counts[is]++
		if got := Valid(a); got != is {
			t.Errorf("Valid(%v) = %t", a, got)
		}
		if got := Contains(a, s); got != (is && fits(s) && has(a, s)) {
			t.Errorf("Contains(%v, %v) = %t", a, s, got)
		}
		if got := Choose(a); Contains(a, got) != is || !is && got != (api.Ratio{}) {
			t.Errorf("Choose(%v) = %v", a, got)
		}
		want, ok := none, false
		if is && valid(b) {
			want, ok = meet(a, b)
		}
		checkMeet(t, a, b, want, ok)
	}
	if counts[true] < 1000 || counts[false] < 1000 {
		t.Errorf("%v: too few of one kind", counts)
	}
}
