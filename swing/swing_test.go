package swing

import (
	"math"
	"math/big"
	"math/rand"
	"slices"
	"testing"

	"tscodec/api"
	"tscodec/cone"
	"tscodec/wide"
)

const (
	least    = math.MinInt64
	greatest = math.MaxInt64
	full     = math.MaxUint64 // a word with all bits
)

var (
	none = api.SwingState{} // what stands beside an error; it is a valid state, too
	open = api.Cone{Open: true}
	zero = over(0, 1)
	most = api.Wide{Mag: [4]uint64{full, 1<<63 - 1}} // the greatest absolute value in a valid fraction
)

// sample returns a sample.
func sample(t, v int64) api.Sample {
	return api.Sample{T: t, V: v}
}

// counted returns samples with these values at the times 0, 1, 2 and so on.
func counted(values ...int64) []api.Sample {
	l := make([]api.Sample, len(values))
	for i, v := range values {
		l[i] = sample(int64(i), v)
	}
	return l
}

// over returns the struct of two small numbers, in lowest terms or not.
func over(num, den int64) api.Ratio {
	return api.Ratio{Num: wide.Of(num), Den: wide.Of(den)}
}

// between returns the cone of small numbers, a / b to c / d.
func between(a, b, c, d int64) api.Cone {
	return api.Cone{Lo: over(a, b), Hi: over(c, d)}
}

// line returns a line.
func line(count int, value int64, slope api.Ratio) api.Line {
	return api.Line{Count: count, Value: value, Slope: slope}
}

// begun returns the state after the first sample of a segment.
func begun(eps int64, first api.Sample) api.SwingState {
	return api.SwingState{Tolerance: eps, Count: 1, First: first, Last: first.T, Cone: open}
}

// grown returns the state after count samples of a segment, of which the first is at 5 with the value 3, and the last at 9.
func grown(eps int64, count int, c api.Cone) api.SwingState {
	return api.SwingState{Tolerance: eps, Count: count, First: sample(5, 3), Last: 9, Cone: c}
}

// number returns the number of a Wide without bounds.
func number(a api.Wide) *big.Int {
	x := new(big.Int)
	for i := len(a.Mag) - 1; i >= 0; i-- {
		x.Lsh(x, 64)
		x.Or(x, new(big.Int).SetUint64(a.Mag[i]))
	}
	if a.Neg {
		x.Neg(x)
	}
	return x
}

// wideOf returns the Wide of a number of at most 256 bits.
func wideOf(x *big.Int) api.Wide {
	a := api.Wide{Neg: x.Sign() < 0}
	rest, word := new(big.Int).Abs(x), new(big.Int).SetUint64(full)
	for i := range a.Mag {
		a.Mag[i] = new(big.Int).And(rest, word).Uint64()
		rest.Rsh(rest, 64)
	}
	return a
}

// rational returns the number of a valid fraction without bounds.
func rational(a api.Ratio) *big.Rat {
	return new(big.Rat).SetFrac(number(a.Num), number(a.Den))
}

// fraction returns the struct of a number without bounds.
func fraction(x *big.Rat) api.Ratio {
	return api.Ratio{Num: wideOf(x.Num()), Den: wideOf(x.Denom())}
}

// minus returns a - b without bounds.
func minus(a, b int64) *big.Int {
	return new(big.Int).Sub(big.NewInt(a), big.NewInt(b))
}

// slopesThrough returns the least and the greatest slope of the lines from a that are within eps of b, without bounds.
func slopesThrough(a, b api.Sample, eps int64) (lo, hi *big.Rat) {
	rise, dt := minus(b.V, a.V), minus(b.T, a.T)
	lo = new(big.Rat).SetFrac(new(big.Int).Sub(rise, big.NewInt(eps)), dt)
	hi = new(big.Rat).SetFrac(new(big.Int).Add(rise, big.NewInt(eps)), dt)
	return lo, hi
}

// step says what Step is to return for a valid state and a later sample.
func step(s api.SwingState, x api.Sample) (api.SwingState, []api.Line) {
	if s.Count == 0 {
		return begun(s.Tolerance, x), nil
	}
	lo, hi := slopesThrough(s.First, x, s.Tolerance)
	if s.Count > 1 {
		if old := rational(s.Cone.Lo); old.Cmp(lo) > 0 {
			lo = old
		}
		if old := rational(s.Cone.Hi); old.Cmp(hi) < 0 {
			hi = old
		}
	}
	if lo.Cmp(hi) > 0 {
		return begun(s.Tolerance, x), finish(s)
	}
	s.Count++
	s.Last, s.Cone = x.T, api.Cone{Lo: fraction(lo), Hi: fraction(hi)}
	return s, nil
}

// finish says what Finish is to return for a valid state.
func finish(s api.SwingState) []api.Line {
	if s.Count == 0 {
		return nil
	}
	return []api.Line{line(s.Count, s.First.V, cone.Choose(s.Cone))}
}

// goodStates are valid: with each kind of Count, and with fields at the limits.
func goodStates() []api.SwingState {
	list := []api.SwingState{
		{Tolerance: 0, Count: 2, First: sample(least, least), Last: greatest, Cone: between(1, 1, 1, 1)},
		{Tolerance: 5, Count: 2, First: sample(least, 0), Last: least + 1, Cone: between(-5, 1, 5, 1)},
		{Tolerance: 5, Count: api.MaxStream, First: sample(greatest-1, greatest), Last: greatest, Cone: between(least, 1, greatest, 1)},
	}
	cones := []api.Cone{
		between(0, 1, 0, 1), between(-1, 2, 1, 3), between(2, 1, 5, 2), between(-7, 3, -2, 1),
		{Lo: api.Ratio{Num: wide.Neg(most), Den: wide.Of(1)}, Hi: api.Ratio{Num: most, Den: wide.Of(1)}},
		{Lo: api.Ratio{Num: wide.Of(1), Den: most}, Hi: over(1, 7)},
	}
	for _, eps := range []int64{0, 1, 4, api.MaxTolerance - 1, api.MaxTolerance} {
		list = append(list, api.SwingState{Tolerance: eps})
		for _, t := range []int64{least, -1, 0, 5, greatest} {
			list = append(list, begun(eps, sample(t, -3)), begun(eps, sample(t, greatest)))
		}
		for _, c := range cones {
			// The number of samples need not have room between the times.
			for _, count := range []int{2, 3, 4, 1000, api.MaxStream - 1, api.MaxStream} {
				list = append(list, grown(eps, count, c))
			}
		}
	}
	return list
}

// changed returns a state with a change.
func changed(s api.SwingState, change func(s *api.SwingState)) api.SwingState {
	change(&s)
	return s
}

// badCones are not valid.
func badCones() []api.Cone {
	return []api.Cone{
		{},
		between(1, 1, 0, 1),
		between(2, 4, 1, 1),
		between(0, 1, 2, 2),
		between(0, 2, 1, 1),
		between(0, 1, 1, 0),
		between(0, 1, -1, -1),
		{Open: true, Lo: zero},
		{Open: true, Hi: zero},
		{Open: true, Lo: zero, Hi: zero},
		{Lo: zero},
		{Hi: zero},
		{Lo: api.Ratio{Num: api.Wide{Neg: true}, Den: wide.Of(1)}, Hi: zero},
		{Lo: zero, Hi: api.Ratio{Num: api.Wide{Mag: [4]uint64{0, 1 << 63}}, Den: wide.Of(1)}},
	}
}

// badStates break one or more of the conditions.
func badStates() []api.SwingState {
	var list []api.SwingState
	for _, s := range goodStates() {
		for _, eps := range []int64{-1, least, api.MaxTolerance + 1, greatest} {
			list = append(list, changed(s, func(s *api.SwingState) { s.Tolerance = eps }))
		}
		for _, count := range []int{-1, math.MinInt, api.MaxStream + 1, math.MaxInt} {
			list = append(list, changed(s, func(s *api.SwingState) { s.Count = count }))
		}
		for _, c := range badCones() {
			if s.Count > 0 || c != (api.Cone{}) {
				list = append(list, changed(s, func(s *api.SwingState) { s.Cone = c }))
			}
		}
		if s.Count > 0 {
			list = append(list, changed(s, func(s *api.SwingState) { s.Count = 0 }))
		}
	}
	empty, one, two := api.SwingState{Tolerance: 4}, begun(4, sample(5, 3)), grown(4, 2, between(0, 1, 1, 2))
	for _, c := range []api.Cone{open, between(0, 1, 0, 1), between(-1, 2, 1, 3)} {
		list = append(list, changed(empty, func(s *api.SwingState) { s.Cone = c }))
		if !c.Open {
			list = append(list, changed(one, func(s *api.SwingState) { s.Cone = c }))
		}
	}
	for _, v := range []int64{1, -1, least, greatest} {
		list = append(list,
			changed(empty, func(s *api.SwingState) { s.First.T = v }),
			changed(empty, func(s *api.SwingState) { s.First.V = v }),
			changed(empty, func(s *api.SwingState) { s.Last = v }),
			changed(one, func(s *api.SwingState) { s.First.T = v }),
			changed(one, func(s *api.SwingState) { s.Last = v }))
	}
	for _, last := range []int64{5, 4, 0, -1, least} {
		list = append(list, changed(two, func(s *api.SwingState) { s.Last = last }))
	}
	return append(list,
		changed(empty, func(s *api.SwingState) { s.Count = 1 }),
		changed(empty, func(s *api.SwingState) { s.Count = 2 }),
		changed(one, func(s *api.SwingState) { s.Count = 2 }),
		changed(one, func(s *api.SwingState) { s.Count = 2; s.Last = 6 }),
		changed(two, func(s *api.SwingState) { s.Count = 1 }),
		changed(two, func(s *api.SwingState) { s.Cone = open }),
		changed(two, func(s *api.SwingState) { s.First.T = 9 }),
		changed(two, func(s *api.SwingState) { s.First.T = greatest }))
}

// checkStep demands a result of Step.
func checkStep(t *testing.T, s api.SwingState, x api.Sample, want api.SwingState, lines []api.Line, err api.Errno) {
	t.Helper()
	if next, ended, e := Step(s, x); next != want || !slices.Equal(ended, lines) || e != err {
		t.Errorf("Step(%v, %v) = %v, %v, %v, not %v, %v, %v", s, x, next, ended, e, want, lines, err)
	}
}

// checkFinish demands a result of Finish.
func checkFinish(t *testing.T, s api.SwingState, lines []api.Line, err api.Errno) {
	t.Helper()
	if got, e := Finish(s); !slices.Equal(got, lines) || e != err {
		t.Errorf("Finish(%v) = %v, %v, not %v, %v", s, got, e, lines, err)
	}
}

// Promise 14.1.

func TestStart(t *testing.T) {
	for _, eps := range []int64{0, 1, 7, 1 << 40, api.MaxTolerance - 1, api.MaxTolerance} {
		if s, e := Start(eps); s != (api.SwingState{Tolerance: eps}) || e != api.OK || !Valid(s) {
			t.Errorf("Start(%d) = %v, %v", eps, s, e)
		}
	}
	for _, eps := range []int64{-1, -7, least, api.MaxTolerance + 1, greatest} {
		if s, e := Start(eps); s != none || e != api.ErrTolerance {
			t.Errorf("Start(%d) = %v, %v", eps, s, e)
		}
	}
}

func TestValid(t *testing.T) {
	for _, s := range goodStates() {
		if !Valid(s) {
			t.Errorf("%v is not valid", s)
		}
	}
	for _, s := range badStates() {
		if Valid(s) {
			t.Errorf("%v is valid", s)
		}
	}
}

// TestValidOfAll puts states together from all kinds of fields.
func TestValidOfAll(t *testing.T) {
	type ends struct {
		c           api.Cone
		zero, valid bool
	}
	cones := []ends{{open, false, true}, {between(0, 1, 0, 1), false, true}, {between(-1, 2, 1, 3), false, true}}
	for _, c := range badCones() {
		cones = append(cones, ends{c, c == api.Cone{}, false})
	}
	times := []int64{least, -1, 0, 1, greatest}
	found := map[int]int{}
	visit := func(s api.SwingState, x ends) {
		var want bool
		switch {
		case s.Tolerance < 0 || s.Tolerance > 1<<62:
		case s.Count == 0:
			want = s.First.T == 0 && s.First.V == 0 && s.Last == 0 && x.zero
		case s.Count == 1:
			want = s.First.T == s.Last && s.Cone == open
		case s.Count > 1 && s.Count <= 1<<30:
			want = big.NewInt(s.First.T).Cmp(big.NewInt(s.Last)) < 0 && x.valid && s.Cone != open
		}
		if want {
			found[s.Count]++
		}
		if Valid(s) != want {
			t.Errorf("Valid(%v) = %t", s, !want)
		}
	}
	for _, eps := range []int64{least, -1, 0, 1, 1 << 62, 1<<62 + 1, greatest} {
		for _, count := range []int{math.MinInt, -1, 0, 1, 2, 3, 1 << 30, 1<<30 + 1, math.MaxInt} {
			for _, first := range times {
				for _, v := range []int64{least, 0, 1} {
					for _, last := range times {
						for _, x := range cones {
							visit(api.SwingState{Tolerance: eps, Count: count, First: sample(first, v), Last: last, Cone: x.c}, x)
						}
					}
				}
			}
		}
	}
	if found[0] != 3 || found[1] != 3*3*5 || found[2] != 3*3*10*2 || len(found) != 5 {
		t.Errorf("the test accepts %v", found)
	}
}

// Promise 14.2.

func TestBegin(t *testing.T) {
	for _, eps := range []int64{0, 1, api.MaxTolerance} {
		for _, x := range []api.Sample{{}, sample(least, greatest), sample(-1, 1), sample(0, least), sample(greatest, 7)} {
			want := api.SwingState{Tolerance: eps, Count: 1, First: x, Last: x.T, Cone: open}
			checkStep(t, api.SwingState{Tolerance: eps}, x, want, nil, api.OK)
		}
	}
	// Behind the line of 5 to 9, the segment of the next sample begins in the same way.
	s := grown(0, 3, between(0, 1, 0, 1))
	for _, x := range []api.Sample{sample(10, 4), sample(10, least), sample(10, greatest), sample(greatest, 2)} {
		want := api.SwingState{Count: 1, First: x, Last: x.T, Cone: open}
		checkStep(t, s, x, want, []api.Line{line(3, 3, zero)}, api.OK)
	}
}

func TestLineOfASegment(t *testing.T) {
	for _, x := range []struct {
		c     api.Cone
		slope api.Ratio
	}{
		{between(2, 1, 3, 1), over(2, 1)},
		{between(-3, 1, -2, 1), over(-2, 1)},
		{between(-1, 7, 5, 1), zero},
		{between(1, 3, 1, 2), over(1, 2)},
		{between(-7, 5, -4, 3), over(-4, 3)},
		{between(157, 50, 63, 20), over(22, 7)},
		{between(5, 7, 5, 7), over(5, 7)},
	} {
		s := grown(0, 4, x.c)
		want := []api.Line{line(4, 3, x.slope)}
		checkFinish(t, s, want, api.OK)
		checkStep(t, s, sample(10, greatest), begun(0, sample(10, greatest)), want, api.OK)
		checkStep(t, s, sample(10, least), begun(0, sample(10, least)), want, api.OK)
	}
	for _, v := range []int64{least, -8, 0, 1, greatest} {
		checkFinish(t, begun(3, sample(5, v)), []api.Line{line(1, v, zero)}, api.OK)
	}
}

// Promise 14.3.

func TestStep(t *testing.T) {
	first := sample(5, 3)
	for _, x := range []struct {
		s     api.SwingState
		x     api.Sample
		want  api.SwingState
		lines []api.Line
	}{
		// The second sample of a segment always fits.
		{begun(2, first), sample(9, 3), grown(2, 2, between(-1, 2, 1, 2)), nil},
		{begun(0, first), sample(9, 4), grown(0, 2, between(1, 4, 1, 4)), nil},
		{begun(1, first), sample(9, -3), grown(1, 2, between(-7, 4, -5, 4)), nil},
		{begun(0, sample(least, least)), sample(greatest, greatest), api.SwingState{Count: 2, First: sample(least, least), Last: greatest, Cone: between(1, 1, 1, 1)}, nil},
		{
			begun(api.MaxTolerance, sample(0, greatest)), sample(1, least),
			api.SwingState{Tolerance: api.MaxTolerance, Count: 2, First: sample(0, greatest), Last: 1, Cone: api.Cone{
				Lo: api.Ratio{Num: api.Wide{Neg: true, Mag: [4]uint64{1<<62 - 1, 1}}, Den: wide.Of(1)},
				Hi: api.Ratio{Num: api.Wide{Neg: true, Mag: [4]uint64{1<<63 + 1<<62 - 1}}, Den: wide.Of(1)},
			}}, nil,
		},
		// Both ends of the cone move, or one, or none.
		{grown(1, 2, between(-1, 1, 1, 1)), sample(10, 4), changed(grown(1, 3, between(0, 1, 2, 5)), later(10)), nil},
		{grown(1, 2, between(0, 1, 1, 1)), sample(10, 3), changed(grown(1, 3, between(0, 1, 1, 5)), later(10)), nil},
		{grown(1, 2, between(-1, 1, 0, 1)), sample(10, 3), changed(grown(1, 3, between(-1, 5, 0, 1)), later(10)), nil},
		{grown(9, 2, between(-1, 5, 1, 7)), sample(10, 3), changed(grown(9, 3, between(-1, 5, 1, 7)), later(10)), nil},
		// One slope is left at an end, and a slope too much.
		{grown(1, 7, between(2, 5, 1, 1)), sample(10, 4), changed(grown(1, 8, between(2, 5, 2, 5)), later(10)), nil},
		{grown(1, 7, between(-1, 1, -2, 5)), sample(10, 2), changed(grown(1, 8, between(-2, 5, -2, 5)), later(10)), nil},
		{grown(1, 7, between(2, 5, 1, 1)), sample(10, 3), begun(1, sample(10, 3)), []api.Line{line(7, 3, over(1, 1))}},
		{grown(1, 7, between(-1, 1, -2, 5)), sample(10, 3), begun(1, sample(10, 3)), []api.Line{line(7, 3, over(-1, 1))}},
		{grown(1, 7, between(-1, 1, -2, 5)), sample(greatest, greatest), begun(1, sample(greatest, greatest)), []api.Line{line(7, 3, over(-1, 1))}},
	} {
		checkStep(t, x.s, x.x, x.want, x.lines, api.OK)
		if next, lines := step(x.s, x.x); next != x.want || !slices.Equal(lines, x.lines) {
			t.Errorf("%v, %v: the test expects both", x.s, x.x)
		}
	}
}

// later returns a change of the last time.
func later(last int64) func(*api.SwingState) {
	return func(s *api.SwingState) { s.Last = last }
}

func TestStepErrors(t *testing.T) {
	samples := []api.Sample{{}, sample(least, 0), sample(greatest, greatest), sample(5, 3), sample(9, 3), sample(10, 3)}
	for _, s := range badStates() {
		for _, x := range samples {
			// It is never the order or the limit that is reported, although many of the states have no room for the sample.
			checkStep(t, s, x, none, nil, api.ErrInvalid)
		}
	}
	for _, s := range goodStates() {
		if s.Count == 0 {
			continue
		}
		for _, at := range []int64{least, s.First.T, s.Last} {
			checkStep(t, s, sample(at, s.First.V), none, nil, api.ErrOrder)
		}
		if s.Last > least {
			checkStep(t, s, sample(s.Last-1, least), none, nil, api.ErrOrder)
		}
		if s.Count == api.MaxStream && s.Last < greatest {
			// The limit holds for a sample that does not fit, too.
			for _, v := range []int64{least, s.First.V, greatest} {
				checkStep(t, s, sample(s.Last+1, v), none, nil, api.ErrLimit)
				checkStep(t, s, sample(greatest, v), none, nil, api.ErrLimit)
			}
		}
	}
}

func TestStepUpToTheLimit(t *testing.T) {
	s := grown(0, api.MaxStream-1, between(1, 1, 1, 1))
	last := changed(grown(0, api.MaxStream, between(1, 1, 1, 1)), later(10))
	checkStep(t, s, sample(10, 8), last, nil, api.OK)
	checkStep(t, s, sample(10, 9), begun(0, sample(10, 9)), []api.Line{line(api.MaxStream-1, 3, over(1, 1))}, api.OK)
	checkStep(t, last, sample(11, 9), none, nil, api.ErrLimit)
	checkStep(t, last, sample(11, 0), none, nil, api.ErrLimit)
	checkStep(t, last, sample(10, 8), none, nil, api.ErrOrder)
	checkFinish(t, last, []api.Line{line(api.MaxStream, 3, over(1, 1))}, api.OK)
}

func TestStepOfAll(t *testing.T) {
	counts := map[string]int{}
	for _, s := range goodStates() {
		for _, at := range []int64{least, -1, 0, 1, 6, 9, 10, 11, 1000, greatest - 1, greatest} {
			for _, v := range []int64{least, -1000, -7, -1, 0, 1, 2, 3, 4, 5, 6, 12, 1000, greatest} {
				x := sample(at, v)
				switch {
				case s.Count > 0 && big.NewInt(at).Cmp(big.NewInt(s.Last)) <= 0:
					counts["order"]++
					checkStep(t, s, x, none, nil, api.ErrOrder)
				case s.Count == api.MaxStream:
					counts["limit"]++
					checkStep(t, s, x, none, nil, api.ErrLimit)
				default:
					next, lines := step(s, x)
					if len(lines) > 0 {
						counts["ended"]++
					} else {
						counts["fits"]++
					}
					checkStep(t, s, x, next, lines, api.OK)
					if !Valid(next) {
						t.Errorf("Step(%v, %v) = %v is not valid", s, x, next)
					}
				}
			}
		}
	}
	for _, kind := range []string{"order", "limit", "ended", "fits"} {
		if counts[kind] < 1000 {
			t.Errorf("%v: too few of %s", counts, kind)
		}
	}
}

// Rule R1: anything may be an argument.

// anyNumber returns a number, of few bits as often as of many.
func anyNumber(random *rand.Rand) int64 {
	return int64(random.Uint64()) >> random.Intn(64)
}

// anyState returns a state that may be valid or not.
func anyState(random *rand.Rand) api.SwingState {
	s := api.SwingState{Tolerance: anyNumber(random), Count: int(anyNumber(random))}
	s.First, s.Last = sample(anyNumber(random), anyNumber(random)), anyNumber(random)
	switch random.Intn(4) {
	case 0:
		s.Cone = open
		s.Count, s.Last = 1, s.First.T
	case 1:
		s.Cone = api.Cone{Lo: over(anyNumber(random), anyNumber(random)), Hi: over(anyNumber(random), anyNumber(random))}
	case 2:
		s.Cone = between(anyNumber(random), 1, anyNumber(random), 1)
	}
	return s
}

func TestAnyState(t *testing.T) {
	random := rand.New(rand.NewSource(141))
	counts := map[api.Errno]int{}
	for range 50000 {
		s, x := anyState(random), sample(anyNumber(random), anyNumber(random))
		next, lines, e := Step(s, x)
		rest, is := Finish(s)
		counts[e]++
		if Valid(s) != (e != api.ErrInvalid) || Valid(s) != (is == api.OK) || e != api.OK && (next != none || len(lines) > 0) {
			t.Errorf("Step(%v, %v) = %v, %v, %v", s, x, next, lines, e)
		}
		if is == api.OK && !slices.Equal(rest, finish(s)) || is != api.OK && len(rest) > 0 {
			t.Errorf("Finish(%v) = %v, %v", s, rest, is)
		}
		if e == api.OK {
			want, ended := step(s, x)
			checkStep(t, s, x, want, ended, api.OK)
		}
	}
	if counts[api.OK] < 1000 || counts[api.ErrInvalid] < 1000 || counts[api.ErrOrder] < 1000 {
		t.Errorf("%v: too few of one kind", counts)
	}
}
