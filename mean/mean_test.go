package mean

import (
	"math"
	"math/big"
	"math/rand"
	"slices"
	"testing"

	"tscodec/api"
)

const (
	least    = math.MinInt64
	greatest = math.MaxInt64
)

// none is what stands beside an error; it is a valid state, too.
var none = api.MeanState{}

// state returns a state.
func state(eps int64, count int, low, high, sum int64) api.MeanState {
	return stateOf(eps, count, low, high, wideOf(big.NewInt(sum)))
}

// stateOf returns a state with a sum that may have more than 64 bits.
func stateOf(eps int64, count int, low, high int64, sum api.Wide) api.MeanState {
	return api.MeanState{Tolerance: eps, Count: count, Min: low, Max: high, Sum: sum}
}

// times returns n * v + more.
func times(n, v, more int64) api.Wide {
	product := new(big.Int).Mul(big.NewInt(n), big.NewInt(v))
	return wideOf(product.Add(product, big.NewInt(more)))
}

// wideOf returns the Wide of a number, which must have less than 257 bits.
func wideOf(b *big.Int) api.Wide {
	out := api.Wide{Neg: b.Sign() < 0}
	rest := new(big.Int).Abs(b)
	for i := range out.Mag {
		out.Mag[i] = new(big.Int).And(rest, new(big.Int).SetUint64(math.MaxUint64)).Uint64()
		rest.Rsh(rest, 64)
	}
	if rest.Sign() != 0 {
		panic("the number is no Wide")
	}
	return out
}

// bigOf returns the number of a Wide.
func bigOf(w api.Wide) *big.Int {
	out := new(big.Int)
	for i := len(w.Mag) - 1; i >= 0; i-- {
		out.Or(out.Lsh(out, 64), new(big.Int).SetUint64(w.Mag[i]))
	}
	if w.Neg {
		out.Neg(out)
	}
	return out
}

// constant returns a list of one segment.
func constant(count int, value int64) []api.Constant {
	return []api.Constant{{Count: count, Value: value}}
}

// meanOf returns a sum divided by a count that is greater than 0, rounded down.
func meanOf(sum *big.Int, count int) *big.Int {
	return new(big.Int).Div(sum, big.NewInt(int64(count))) // Div leaves a rest that is not negative
}

// inReach says whether v is within eps of a number.
func inReach(number *big.Int, v, eps int64) bool {
	return new(big.Int).Sub(number, big.NewInt(v)).CmpAbs(big.NewInt(eps)) <= 0
}

// wantFinish says what Finish is to return for a valid state.
func wantFinish(s api.MeanState) []api.Constant {
	if s.Count == 0 {
		return nil
	}
	return constant(s.Count, meanOf(bigOf(s.Sum), s.Count).Int64())
}

// wantStep says what Step is to return for a valid state that is not full.
func wantStep(s api.MeanState, v int64) (api.MeanState, []api.Constant) {
	if s.Count > 0 {
		low, high := slices.Min([]int64{s.Min, v}), slices.Max([]int64{s.Max, v})
		sum := new(big.Int).Add(bigOf(s.Sum), big.NewInt(v))
		if next := stateOf(s.Tolerance, s.Count+1, low, high, wideOf(sum)); wantValid(next) {
			return next, nil
		}
	}
	return state(s.Tolerance, 1, v, v, v), wantFinish(s)
}

// wantValid says what Valid is to return.
func wantValid(s api.MeanState) bool {
	sum := bigOf(s.Sum)
	switch {
	case s.Tolerance < 0 || s.Tolerance > 1<<62 || s.Sum.Neg && sum.Sign() == 0:
		return false
	case s.Count == 0:
		return s.Min == 0 && s.Max == 0 && sum.Sign() == 0
	case s.Count == 1:
		return s.Min == s.Max && sum.Cmp(big.NewInt(s.Min)) == 0
	case s.Count < 2 || s.Count > 1<<30 || s.Min > s.Max:
		return false
	}
	n := int64(s.Count - 1)
	if sum.Cmp(bigOf(times(n, s.Min, s.Max))) < 0 || sum.Cmp(bigOf(times(n, s.Max, s.Min))) > 0 {
		return false
	}
	mean := meanOf(sum, s.Count)
	return inReach(mean, s.Min, s.Tolerance) && inReach(mean, s.Max, s.Tolerance)
}

// goodStates fulfil all conditions.
func goodStates() []api.MeanState {
	return []api.MeanState{
		{}, state(1, 0, 0, 0, 0), state(api.MaxTolerance, 0, 0, 0, 0),
		state(0, 1, 0, 0, 0), state(0, 1, 7, 7, 7), state(0, 1, -7, -7, -7), state(0, 1, least, least, least),
		state(0, 1, greatest, greatest, greatest), state(3, 1, -5, -5, -5), state(api.MaxTolerance, 1, 5, 5, 5),
		// Values that are all equal.
		state(0, 2, 4, 4, 8), state(0, 3, -4, -4, -12), state(7, 5, 0, 0, 0),
		stateOf(0, 2, least, least, times(2, least, 0)), stateOf(0, 9, greatest, greatest, times(9, greatest, 0)),
		stateOf(0, api.MaxStream, greatest, greatest, times(api.MaxStream, greatest, 0)),
		stateOf(1, api.MaxStream, least, least, times(api.MaxStream, least, 0)),
		// Two values have one sum only. The mean is rounded down, and so is farther from the greater one.
		state(1, 2, 0, 1, 1), state(1, 2, -1, 0, -1), state(1, 2, 0, 2, 2), state(2, 2, 0, 3, 3), state(2, 2, -3, 0, -3), state(2, 2, -2, 2, 0),
		// The least and the greatest sum of some values.
		state(5, 3, 0, 4, 4), state(5, 3, 0, 4, 8), state(5, 4, -3, 2, -7), state(5, 4, -3, 2, 3), state(4, 3, -2, 2, -2), state(4, 3, -2, 2, 2),
		// The tolerance is used up, at the lower and at the upper end.
		state(2, 3, 0, 4, 6), state(2, 3, 0, 4, 8), state(3, 4, -3, 2, -1), state(2, 4, -3, 1, -4), state(2, 4, -3, 1, -1),
		state(api.MaxTolerance, 2, least, 0, least), state(api.MaxTolerance, 2, -1, greatest, greatest-1),
		state(api.MaxTolerance, 2, -1<<62, 1<<62, 0), state(1<<61, 2, 0, 1<<62, 1<<62),
		stateOf(api.MaxTolerance, 4, least, 0, times(2, least, 0)), stateOf(api.MaxTolerance, 4, -1, greatest, times(2, greatest, -2)),
		state(3, api.MaxStream-1, -1, 5, 2*(api.MaxStream-1)), state(3, api.MaxStream, -1, 5, 2*api.MaxStream),
		state(6, api.MaxStream, -1, 5, 6-api.MaxStream), state(6, api.MaxStream, -1, 5, 5*api.MaxStream-6),
	}
}

// badStates break one or more of the conditions.
func badStates() []api.MeanState {
	huge := api.Wide{Mag: [4]uint64{math.MaxUint64, math.MaxUint64, math.MaxUint64, math.MaxUint64}}
	list := []api.MeanState{
		// No segment, but values.
		state(0, 0, 1, 1, 0), state(5, 0, 0, 1, 0), state(5, 0, -1, 0, 0), state(5, 0, 0, 0, 1), state(5, 0, 0, 0, -1), stateOf(5, 0, 0, 0, huge),
		state(5, 0, 1, 1, 1), state(api.MaxTolerance, 0, 0, greatest, 0), state(5, 0, least, least, least),
		// One value is its own range and sum.
		state(5, 1, 1, 2, 1), state(5, 1, 1, 2, 2), state(5, 1, 2, 1, 1), state(5, 1, 2, 1, 2), state(5, 1, 1, 1, 2), state(5, 1, 1, 1, 0),
		state(5, 1, 1, 1, -1), state(5, 1, -1, -1, 1), state(5, 1, 1, 2, 3), state(5, 1, 0, 0, 1), stateOf(5, 1, 1, 1, api.Wide{Mag: [4]uint64{1, 1}}),
		// The least value is greater than the greatest one.
		state(5, 2, 4, 0, 4), state(0, 2, 5, 4, 9), state(5, 3, 4, 0, 6), state(api.MaxTolerance, 2, 1, 0, 1), state(api.MaxTolerance, 2, greatest, least, -1),
		// The sum is too small or too great by one, or by far.
		state(5, 2, 0, 4, 3), state(5, 2, 0, 4, 5), state(5, 2, 4, 4, 7), state(5, 2, 4, 4, 9), state(5, 3, 0, 4, 3), state(5, 3, 0, 4, 9),
		state(5, 4, -3, 2, -8), state(5, 4, -3, 2, 4), state(5, 2, 0, 4, 0), state(5, 3, 0, 4, greatest), state(5, 3, 0, 4, least),
		stateOf(5, 3, 0, 4, huge), stateOf(5, 3, 0, 4, api.Wide{Neg: true, Mag: huge.Mag}), stateOf(5, 3, 0, 4, api.Wide{Mag: [4]uint64{6, 0, 0, 1}}),
		stateOf(0, 2, least, least, times(2, least, 1)), stateOf(0, 2, greatest, greatest, times(2, greatest, 1)),
		state(6, api.MaxStream, -1, 5, 5-api.MaxStream), state(6, api.MaxStream, -1, 5, 5*api.MaxStream-5),
		// The mean is too far from the least or from the greatest value by one.
		state(0, 2, 4, 5, 9), state(1, 2, 0, 3, 3), state(2, 2, 0, 5, 5), state(1, 2, -3, 0, -3), state(2, 3, 0, 4, 4), state(2, 3, 0, 4, 5), state(1, 3, 0, 3, 3),
		state(2, 4, -3, 1, -5), state(2, 4, -3, 1, 0), state(1<<61, 2, -1, 1<<62, 1<<62-1), state(api.MaxTolerance, 2, least, 1, least+1),
		state(api.MaxTolerance, 2, -2, greatest, greatest-2), state(0, 2, least, greatest, -1), state(api.MaxTolerance, 2, least, greatest, -1),
	}
	for _, s := range goodStates() {
		for _, eps := range []int64{least, -api.MaxTolerance, -1, api.MaxTolerance + 1, greatest} {
			list = append(list, stateOf(eps, s.Count, s.Min, s.Max, s.Sum))
		}
		for _, count := range []int{math.MinInt, -s.Count - 1, -1, api.MaxStream + 1, math.MaxInt} {
			list = append(list, stateOf(s.Tolerance, count, s.Min, s.Max, s.Sum))
		}
		// A sum that is not valid would count as 0, which is a sum of some of these states.
		list = append(list, stateOf(s.Tolerance, s.Count, s.Min, s.Max, api.Wide{Neg: true}))
		if s.Count > 1 && s.Min < s.Max {
			list = append(list, stateOf(s.Tolerance, s.Count, s.Max, s.Min, s.Sum), stateOf(s.Tolerance, 1, s.Min, s.Max, s.Sum), stateOf(s.Tolerance, 0, s.Min, s.Max, s.Sum))
		}
	}
	return list
}

// checkStep demands a result of Step.
func checkStep(t *testing.T, s api.MeanState, v int64, want api.MeanState, segments []api.Constant, err api.Errno) {
	t.Helper()
	if next, ended, e := Step(s, v); next != want || !slices.Equal(ended, segments) || e != err {
		t.Errorf("Step(%v, %d) = %v, %v, %v, not %v, %v, %v", s, v, next, ended, e, want, segments, err)
	}
}

// checkFinish demands a result of Finish.
func checkFinish(t *testing.T, s api.MeanState, segments []api.Constant, err api.Errno) {
	t.Helper()
	if got, e := Finish(s); !slices.Equal(got, segments) || e != err {
		t.Errorf("Finish(%v) = %v, %v, not %v, %v", s, got, e, segments, err)
	}
}

// Promise 16.1.

func TestStart(t *testing.T) {
	for _, eps := range []int64{0, 1, 7, 1 << 40, api.MaxTolerance - 1, api.MaxTolerance} {
		if s, e := Start(eps); s != (api.MeanState{Tolerance: eps}) || e != api.OK || !Valid(s) {
			t.Errorf("Start(%d) = %v, %v", eps, s, e)
		}
	}
	for _, eps := range []int64{-1, -7, -api.MaxTolerance, least, api.MaxTolerance + 1, greatest} {
		if s, e := Start(eps); s != none || e != api.ErrTolerance {
			t.Errorf("Start(%d) = %v, %v", eps, s, e)
		}
	}
}

func TestValid(t *testing.T) {
	for _, s := range goodStates() {
		if !Valid(s) || !wantValid(s) {
			t.Errorf("%v is not valid", s)
		}
	}
	for _, s := range badStates() {
		if Valid(s) || wantValid(s) {
			t.Errorf("%v is valid", s)
		}
	}
}

// someSums returns sums for the other fields of a state: those at the bounds, those that use up the tolerance, and a few others.
func someSums(eps int64, count int, low, high int64) []api.Wide {
	n, e := int64(count), big.NewInt(eps)
	bottom, top := bigOf(times(n-1, low, high)), bigOf(times(n-1, high, low))
	most := new(big.Int).Mul(big.NewInt(n), new(big.Int).Add(big.NewInt(low), e))
	most.Add(most, big.NewInt(n-1)) // the greatest sum with a mean within eps of low
	fewest := new(big.Int).Mul(big.NewInt(n), new(big.Int).Sub(big.NewInt(high), e))
	out := []api.Wide{{}, {Neg: true}, times(1, low, 0), times(1, high, 0), times(1, low, high), times(n, low, 0), times(n, high, 0)}
	for _, edge := range []*big.Int{bottom, top, most, fewest} {
		for d := int64(-1); d <= 1; d++ {
			out = append(out, wideOf(new(big.Int).Add(edge, big.NewInt(d))))
		}
	}
	return out
}

// TestValidOfAll puts states together from all kinds of fields.
func TestValidOfAll(t *testing.T) {
	values := []int64{least, least + 1, -1 << 62, -2, -1, 0, 1, 3, 1 << 62, greatest}
	found := map[int]int{}
	for _, eps := range []int64{-1, 0, 1, 2, 1 << 61, 1<<62 - 1, 1 << 62, 1<<62 + 1} {
		for _, count := range []int{math.MinInt, -1, 0, 1, 2, 3, 8, 1 << 30, 1<<30 + 1, math.MaxInt} {
			for _, low := range values {
				for _, high := range values {
					for _, sum := range someSums(eps, count, low, high) {
						s := stateOf(eps, count, low, high, sum)
						want := wantValid(s)
						if want {
							found[count]++
						}
						if Valid(s) != want {
							t.Errorf("Valid(%v) = %t", s, !want)
						}
					}
				}
			}
		}
	}
	if found[0] == 0 || found[1] == 0 || found[2] < 100 || found[3] < 100 || found[8] < 100 || found[1<<30] < 100 || len(found) != 6 {
		t.Errorf("the test accepts %v", found)
	}
}

// TestValueOfASegment has sums of both signs, with and without a rest, and sums that are no int64.
func TestValueOfASegment(t *testing.T) {
	for _, x := range []struct {
		s     api.MeanState
		value int64
	}{
		{state(9, 3, 0, 4, 4), 1}, {state(9, 3, 0, 4, 5), 1}, {state(9, 3, 0, 4, 6), 2}, {state(9, 3, 0, 4, 7), 2}, {state(9, 3, 0, 4, 8), 2},
		{state(9, 3, -4, 0, -4), -2}, {state(9, 3, -4, 0, -5), -2}, {state(9, 3, -4, 0, -6), -2}, {state(9, 3, -4, 0, -7), -3}, {state(9, 3, -4, 0, -8), -3},
		{state(9, 4, -1, 1, 1), 0}, {state(9, 4, -1, 1, 0), 0}, {state(9, 4, -1, 1, -1), -1},
		{state(0, 1, 7, 7, 7), 7}, {state(0, 1, -7, -7, -7), -7}, {state(0, 1, least, least, least), least},
		{stateOf(0, 3, greatest, greatest, times(3, greatest, 0)), greatest}, {stateOf(1, 3, greatest-1, greatest, times(3, greatest, -1)), greatest - 1},
		{stateOf(0, 3, least, least, times(3, least, 0)), least}, {stateOf(1, 3, least, least+1, times(3, least, 2)), least},
		{stateOf(api.MaxTolerance, 4, least, 0, times(2, least, 0)), -1 << 62},
		{stateOf(api.MaxTolerance, 4, -1, greatest, times(2, greatest, -2)), 1<<62 - 1},
		{stateOf(0, api.MaxStream-1, greatest, greatest, times(api.MaxStream-1, greatest, 0)), greatest},
		{state(6, api.MaxStream-1, -1, 5, 7-api.MaxStream), -1}, {state(6, api.MaxStream-1, 0, 6, 6), 0},
	} {
		checkFinish(t, x.s, constant(x.s.Count, x.value), api.OK)
		for _, v := range []int64{least, greatest} {
			if next, _ := wantStep(x.s, v); next.Count == 1 {
				checkStep(t, x.s, v, state(x.s.Tolerance, 1, v, v, v), constant(x.s.Count, x.value), api.OK)
			}
		}
	}
}

// Promise 16.2.

func TestBegin(t *testing.T) {
	for _, eps := range []int64{0, 1, api.MaxTolerance} {
		for _, v := range []int64{least, -1, 0, 1, 1000, greatest} {
			checkStep(t, state(eps, 0, 0, 0, 0), v, state(eps, 1, v, v, v), nil, api.OK)
		}
	}
}

func TestStep(t *testing.T) {
	const most = api.MaxTolerance
	for _, x := range []struct {
		s     api.MeanState
		v     int64
		want  api.MeanState
		ended []api.Constant
	}{
		// Without a tolerance, only the same value fits.
		{state(0, 1, 7, 7, 7), 7, state(0, 2, 7, 7, 14), nil},
		{state(0, 1, 7, 7, 7), 8, state(0, 1, 8, 8, 8), constant(1, 7)},
		{state(0, 1, 7, 7, 7), 6, state(0, 1, 6, 6, 6), constant(1, 7)},
		{state(0, 9, 0, 0, 0), 0, state(0, 10, 0, 0, 0), nil},
		{state(0, 9, -3, -3, -27), -3, state(0, 10, -3, -3, -30), nil},
		// Two values may be twice the tolerance apart.
		{state(2, 1, 0, 0, 0), 3, state(2, 2, 0, 3, 3), nil},
		{state(2, 1, 0, 0, 0), 4, state(2, 2, 0, 4, 4), nil},
		{state(2, 1, 0, 0, 0), 5, state(2, 1, 5, 5, 5), constant(1, 0)},
		{state(2, 1, 0, 0, 0), -3, state(2, 2, -3, 0, -3), nil},
		{state(2, 1, 0, 0, 0), -4, state(2, 2, -4, 0, -4), nil},
		{state(2, 1, 0, 0, 0), -5, state(2, 1, -5, -5, -5), constant(1, 0)},
		// With more values before, less: the mean stays behind.
		{state(2, 3, 0, 0, 0), 2, state(2, 4, 0, 2, 2), nil},
		{state(2, 3, 0, 0, 0), 3, state(2, 1, 3, 3, 3), constant(3, 0)},
		{state(2, 3, 0, 0, 0), 4, state(2, 1, 4, 4, 4), constant(3, 0)},
		{state(2, 3, 0, 0, 0), -2, state(2, 4, -2, 0, -2), nil},
		{state(2, 3, 0, 0, 0), -3, state(2, 4, -3, 0, -3), nil}, // -3/4 rounded down is -1
		{state(2, 3, 0, 0, 0), -4, state(2, 1, -4, -4, -4), constant(3, 0)},
		// A value within the range fits, or pulls the mean too far away from one end.
		{state(2, 2, 0, 4, 4), 2, state(2, 3, 0, 4, 6), nil},
		{state(2, 2, 0, 4, 4), 4, state(2, 3, 0, 4, 8), nil},
		{state(2, 3, 0, 4, 8), 4, state(2, 1, 4, 4, 4), constant(3, 2)},
		{state(2, 3, 0, 4, 8), 3, state(2, 4, 0, 4, 11), nil},
		{state(2, 2, 0, 4, 4), 1, state(2, 1, 1, 1, 1), constant(2, 2)},
		{state(2, 2, 0, 4, 4), 0, state(2, 1, 0, 0, 0), constant(2, 2)},
		{state(2, 2, -4, 0, -4), -4, state(2, 1, -4, -4, -4), constant(2, -2)},
		{state(2, 2, -4, 0, -4), 0, state(2, 3, -4, 0, -4), nil},
		// Distances and sums that are no int64.
		{state(most, 1, least, least, least), 0, state(most, 2, least, 0, least), nil},
		{state(most, 1, least, least, least), 1, state(most, 1, 1, 1, 1), constant(1, least)},
		{state(most, 1, greatest, greatest, greatest), -1, state(most, 2, -1, greatest, greatest-1), nil},
		{state(most, 1, greatest, greatest, greatest), -2, state(most, 1, -2, -2, -2), constant(1, greatest)},
		{state(most, 1, greatest, greatest, greatest), least, state(most, 1, least, least, least), constant(1, greatest)},
		{state(most, 2, least, 0, least), least, state(most, 1, least, least, least), constant(2, -1<<62)},
		{state(0, 1, least, least, least), least, stateOf(0, 2, least, least, times(2, least, 0)), nil},
		{state(0, 1, greatest, greatest, greatest), greatest, stateOf(0, 2, greatest, greatest, times(2, greatest, 0)), nil},
		{stateOf(0, 2, least, least, times(2, least, 0)), greatest, state(0, 1, greatest, greatest, greatest), constant(2, least)},
		{stateOf(1, 5, greatest-1, greatest, times(5, greatest, -2)), greatest, stateOf(1, 6, greatest-1, greatest, times(6, greatest, -2)), nil},
		{stateOf(1, 5, greatest-1, greatest, times(5, greatest, -2)), greatest - 2, stateOf(1, 6, greatest-2, greatest, times(6, greatest, -4)), nil},
		{stateOf(1, 5, greatest-1, greatest, times(5, greatest, -2)), greatest - 3, state(1, 1, greatest-3, greatest-3, greatest-3), constant(5, greatest-1)},
	} {
		checkStep(t, x.s, x.v, x.want, x.ended, api.OK)
		if next, ended := wantStep(x.s, x.v); next != x.want || !slices.Equal(ended, x.ended) {
			t.Errorf("%v, %d: the test expects both %v and %v", x.s, x.v, x.want, next)
		}
	}
}

func TestStepErrors(t *testing.T) {
	for _, s := range badStates() {
		// Some have the greatest count or a greater one: even so, the limit comes second.
		for _, v := range []int64{least, -1, 0, 1, s.Min, s.Max, greatest} {
			checkStep(t, s, v, none, nil, api.ErrInvalid)
		}
	}
	for _, s := range goodStates() {
		if s.Count == api.MaxStream {
			// The limit holds for a value that does not fit, too.
			for _, v := range []int64{least, -1, 0, 1, s.Min, s.Max, greatest} {
				checkStep(t, s, v, none, nil, api.ErrLimit)
			}
		}
	}
}

func TestStepUpToTheLimit(t *testing.T) {
	s, full := state(3, api.MaxStream-1, -1, 4, 2*(api.MaxStream-1)), state(3, api.MaxStream, -1, 5, 2*(api.MaxStream-1)+5)
	checkStep(t, s, 5, full, nil, api.OK)
	checkStep(t, s, 6, state(3, 1, 6, 6, 6), constant(api.MaxStream-1, 2), api.OK)
	checkStep(t, full, 5, none, nil, api.ErrLimit)
	checkStep(t, full, 6, none, nil, api.ErrLimit)
	checkFinish(t, full, constant(api.MaxStream, 2), api.OK)
}

func TestStepOfAll(t *testing.T) {
	counts := map[string]int{}
	for _, s := range goodStates() {
		values := []int64{least, least + 6, least + 7, -1 << 62, -1000, -7, 0, 1, 6, 7, 1000, 1 << 62, greatest - 7, greatest - 6, greatest}
		for i := int64(-8); i <= 8; i++ {
			values = append(values, s.Min+i, s.Max+i, s.Min+2*s.Tolerance+i, s.Max-2*s.Tolerance+i)
		}
		for _, v := range values {
			if s.Count == api.MaxStream {
				checkStep(t, s, v, none, nil, api.ErrLimit)
				continue
			}
			next, ended := wantStep(s, v)
			checkStep(t, s, v, next, ended, api.OK)
			if !Valid(next) {
				t.Errorf("Step(%v, %d) = %v is not valid", s, v, next)
			}
			if len(ended) > 0 {
				counts["ended"]++
			} else {
				counts["fits"]++
			}
		}
	}
	if counts["ended"] < 500 || counts["fits"] < 500 {
		t.Errorf("%v: too few of one kind", counts)
	}
}

// Promise 16.3, of one state.

func TestFinish(t *testing.T) {
	for _, eps := range []int64{0, 3, api.MaxTolerance} {
		checkFinish(t, state(eps, 0, 0, 0, 0), nil, api.OK)
		checkFinish(t, state(eps, 1, -2, -2, -2), constant(1, -2), api.OK)
	}
	for _, s := range goodStates() {
		checkFinish(t, s, wantFinish(s), api.OK)
	}
	for _, s := range badStates() {
		checkFinish(t, s, nil, api.ErrInvalid)
	}
}

// Rule R1: anything may be an argument.

// anyNumber returns a number, of few bits as often as of many.
func anyNumber(random *rand.Rand) int64 {
	return int64(random.Uint64()) >> random.Intn(64)
}

// anyState returns a state that is rarely valid, or one that often is.
func anyState(random *rand.Rand) api.MeanState {
	sum := api.Wide{Neg: random.Intn(2) == 0}
	for i := range random.Intn(5) {
		sum.Mag[i] = random.Uint64() >> random.Intn(64)
	}
	s := stateOf(anyNumber(random), int(anyNumber(random)), anyNumber(random), anyNumber(random), sum)
	if random.Intn(2) == 0 {
		s.Tolerance, s.Count, s.Max = s.Tolerance&(api.MaxTolerance-1), random.Intn(5), s.Min+random.Int63n(9)
		s.Sum = times(max(0, int64(s.Count)-1), s.Min, s.Max+random.Int63n(9))
	}
	return s
}

func TestAnyState(t *testing.T) {
	random := rand.New(rand.NewSource(161))
	counts := map[api.Errno]int{}
	for range 50000 {
		s, v := anyState(random), anyNumber(random)
		next, ended, e := Step(s, v)
		rest, is := Finish(s)
		counts[e]++
		if !wantValid(s) {
			if Valid(s) || e != api.ErrInvalid || is != api.ErrInvalid || next != none || len(ended) > 0 || len(rest) > 0 {
				t.Errorf("%v is not valid: Step(%d) = %v, %v, %v, Finish = %v, %v", s, v, next, ended, e, rest, is)
			}
			continue
		}
		want, segments := wantStep(s, v)
		checkStep(t, s, v, want, segments, api.OK)
		checkFinish(t, s, wantFinish(s), api.OK)
	}
	if counts[api.OK] < 1000 || counts[api.ErrInvalid] < 1000 {
		t.Errorf("%v: too few of one kind", counts)
	}
}
