package midrange

import (
	"math"
	"math/big"
	"math/rand"
	"slices"
	"testing"

	"tscodec/api"
)

const (
	least    = math.MinInt64
	greatest = math.MaxInt64
)

// none is what stands beside an error; it is a valid state, too.
var none = api.MidState{}

// state returns a state.
func state(eps int64, count int, low, high int64) api.MidState {
	return api.MidState{Tolerance: eps, Count: count, Min: low, Max: high}
}

// constant returns a list of one segment.
func constant(count int, value int64) []api.Constant {
	return []api.Constant{{Count: count, Value: value}}
}

// inReach says whether a number is within eps of low, of high and so of all between them, without bounds.
func inReach(low, high, eps int64) bool {
	reach := new(big.Int).Lsh(big.NewInt(eps), 1)
	return new(big.Int).Sub(big.NewInt(high), big.NewInt(low)).Cmp(reach) <= 0
}

// wantFinish says what Finish is to return for a valid state.
func wantFinish(s api.MidState) []api.Constant {
	if s.Count == 0 {
		return nil
	}
	sum := new(big.Int).Add(big.NewInt(s.Min), big.NewInt(s.Max))
	return constant(s.Count, sum.Rsh(sum, 1).Int64()) // Rsh rounds down
}

// wantStep says what Step is to return for a valid state that is not full.
func wantStep(s api.MidState, v int64) (api.MidState, []api.Constant) {
	if s.Count > 0 {
		low, high := slices.Min([]int64{s.Min, v}), slices.Max([]int64{s.Max, v})
		if inReach(low, high, s.Tolerance) {
			return state(s.Tolerance, s.Count+1, low, high), nil
		}
	}
	return state(s.Tolerance, 1, v, v), wantFinish(s)
}

// wantValid says what Valid is to return.
func wantValid(s api.MidState) bool {
	switch {
	case s.Tolerance < 0 || s.Tolerance > 1<<62:
		return false
	case s.Count == 0:
		return s.Min == 0 && s.Max == 0
	case s.Count == 1:
		return s.Min == s.Max
	}
	return s.Count > 1 && s.Count <= 1<<30 && s.Min <= s.Max && inReach(s.Min, s.Max, s.Tolerance)
}

// goodStates fulfil all conditions.
func goodStates() []api.MidState {
	return []api.MidState{
		{}, state(1, 0, 0, 0), state(api.MaxTolerance, 0, 0, 0),
		state(0, 1, 0, 0), state(0, 1, 7, 7), state(0, 1, least, least), state(0, 1, greatest, greatest),
		state(3, 1, -5, -5), state(api.MaxTolerance, 1, 5, 5),
		// Two values or more may be equal, and at most twice the tolerance apart.
		state(0, 2, 4, 4), state(0, 9, least, least), state(0, api.MaxStream, greatest, greatest),
		state(1, 2, 3, 3), state(1, 2, 3, 4), state(1, 2, 3, 5), state(1, 2, -2, 0), state(1, 2, -1, 1),
		state(3, 5, -1, 4), state(3, 5, -1, 5), state(3, 2, least, least+6), state(3, 2, greatest-6, greatest),
		state(1<<61, 2, 0, 1<<62), state(1<<61, 3, least, least+1<<62), state(1<<62-1, 2, 0, greatest-1),
		state(api.MaxTolerance, 2, least, 0), state(api.MaxTolerance, 2, -1, greatest), state(api.MaxTolerance, 2, -1<<62, 1<<62),
		state(3, api.MaxStream-1, -1, 5), state(3, api.MaxStream, -1, 5), state(api.MaxTolerance, api.MaxStream, 0, greatest),
	}
}

// badStates break one or more of the conditions.
func badStates() []api.MidState {
	list := []api.MidState{
		// No segment, but values.
		state(0, 0, 1, 1), state(5, 0, 0, 1), state(5, 0, -1, 0), state(5, 0, least, least), state(api.MaxTolerance, 0, 0, greatest),
		// One value cannot have a range.
		state(5, 1, 1, 2), state(5, 1, -1, 0), state(5, 1, 2, 1), state(api.MaxTolerance, 1, least, 0),
		// The least value is greater than the greatest one.
		state(3, 2, 1, 0), state(api.MaxTolerance, 2, greatest, least), state(api.MaxTolerance, 2, 0, -1), state(0, 2, 5, 4),
		// The range is too great by one.
		state(0, 2, 4, 5), state(1, 2, 3, 6), state(3, 2, -1, 6), state(3, 2, least, least+7), state(1<<61, 2, -1, 1<<62),
		state(1<<62-1, 2, 0, greatest), state(api.MaxTolerance, 2, least, 1), state(api.MaxTolerance, 2, -2, greatest),
		state(0, 2, least, greatest), state(api.MaxTolerance, 2, least, greatest),
	}
	for _, s := range goodStates() {
		for _, eps := range []int64{least, -api.MaxTolerance, -1, api.MaxTolerance + 1, greatest} {
			list = append(list, state(eps, s.Count, s.Min, s.Max))
		}
		for _, count := range []int{math.MinInt, -1, api.MaxStream + 1, math.MaxInt} {
			list = append(list, state(s.Tolerance, count, s.Min, s.Max))
		}
		if s.Count > 1 && s.Min < s.Max {
			list = append(list, state(s.Tolerance, s.Count, s.Max, s.Min), state(s.Tolerance, 1, s.Min, s.Max), state(s.Tolerance, 0, s.Min, s.Max))
		}
	}
	return list
}

// checkStep demands a result of Step.
func checkStep(t *testing.T, s api.MidState, v int64, want api.MidState, segments []api.Constant, err api.Errno) {
	t.Helper()
	if next, ended, e := Step(s, v); next != want || !slices.Equal(ended, segments) || e != err {
		t.Errorf("Step(%v, %d) = %v, %v, %v, not %v, %v, %v", s, v, next, ended, e, want, segments, err)
	}
}

// checkFinish demands a result of Finish.
func checkFinish(t *testing.T, s api.MidState, segments []api.Constant, err api.Errno) {
	t.Helper()
	if got, e := Finish(s); !slices.Equal(got, segments) || e != err {
		t.Errorf("Finish(%v) = %v, %v, not %v, %v", s, got, e, segments, err)
	}
}

// Promise 15.1.

func TestStart(t *testing.T) {
	for _, eps := range []int64{0, 1, 7, 1 << 40, api.MaxTolerance - 1, api.MaxTolerance} {
		if s, e := Start(eps); s != (api.MidState{Tolerance: eps}) || e != api.OK || !Valid(s) {
			t.Errorf("Start(%d) = %v, %v", eps, s, e)
		}
	}
	for _, eps := range []int64{-1, -7, -api.MaxTolerance, least, api.MaxTolerance + 1, greatest} {
		if s, e := Start(eps); s != none || e != api.ErrTolerance {
			t.Errorf("Start(%d) = %v, %v", eps, s, e)
		}
	}
}

func TestValid(t *testing.T) {
	for _, s := range goodStates() {
		if !Valid(s) || !wantValid(s) {
			t.Errorf("%v is not valid", s)
		}
	}
	for _, s := range badStates() {
		if Valid(s) || wantValid(s) {
			t.Errorf("%v is valid", s)
		}
	}
}

// TestValidOfAll puts states together from all kinds of fields.
func TestValidOfAll(t *testing.T) {
	values := []int64{least, least + 1, -1 << 62, -2, -1, 0, 1, 2, 1 << 62, greatest - 1, greatest}
	found := map[int]int{}
	for _, eps := range []int64{least, -1, 0, 1, 1 << 61, 1<<62 - 1, 1 << 62, 1<<62 + 1, greatest} {
		for _, count := range []int{math.MinInt, -1, 0, 1, 2, 3, 1 << 30, 1<<30 + 1, math.MaxInt} {
			for _, low := range values {
				for _, high := range values {
					s := state(eps, count, low, high)
					want := wantValid(s)
					if want {
						found[count]++
					}
					if Valid(s) != want {
						t.Errorf("Valid(%v) = %t", s, !want)
					}
				}
			}
		}
	}
	if found[0] != 5 || found[1] != 5*11 || found[2] < 100 || found[3] != found[2] || found[1<<30] != found[2] || len(found) != 5 {
		t.Errorf("the test accepts %v", found)
	}
}

// TestValueOfASegment has both roundings, below 0 and above, and sums that are no int64.
func TestValueOfASegment(t *testing.T) {
	for _, x := range []struct {
		eps, low, high int64
		value          int64
	}{
		{2, 1, 5, 3}, {2, 1, 4, 2}, {2, 2, 5, 3}, {1, 0, 1, 0}, {1, -1, 0, -1}, {1, -1, 1, 0},
		{2, -3, 0, -2}, {2, -4, -1, -3}, {2, -4, -2, -3}, {0, 9, 9, 9}, {0, least, least, least}, {0, greatest, greatest, greatest},
		{1, greatest - 1, greatest, greatest - 1}, {1, least, least + 1, least}, {1, greatest - 2, greatest, greatest - 1},
		{api.MaxTolerance, least, 0, -1 << 62}, {api.MaxTolerance, -1, greatest, 1<<62 - 1}, {api.MaxTolerance, -1 << 62, 1 << 62, 0},
	} {
		s := state(x.eps, 4, x.low, x.high)
		checkFinish(t, s, constant(4, x.value), api.OK)
		for _, v := range []int64{least, greatest} {
			if !inReach(min(x.low, v), max(x.high, v), x.eps) {
				checkStep(t, s, v, state(x.eps, 1, v, v), constant(4, x.value), api.OK)
			}
		}
	}
}

// Promise 15.2.

func TestBegin(t *testing.T) {
	for _, eps := range []int64{0, 1, api.MaxTolerance} {
		for _, v := range []int64{least, -1, 0, 1, 1000, greatest} {
			checkStep(t, state(eps, 0, 0, 0), v, state(eps, 1, v, v), nil, api.OK)
		}
	}
}

func TestStep(t *testing.T) {
	for _, x := range []struct {
		s     api.MidState
		v     int64
		want  api.MidState
		ended []api.Constant
	}{
		// Without a tolerance, only the same value fits.
		{state(0, 1, 7, 7), 7, state(0, 2, 7, 7), nil},
		{state(0, 1, 7, 7), 8, state(0, 1, 8, 8), constant(1, 7)},
		{state(0, 1, 7, 7), 6, state(0, 1, 6, 6), constant(1, 7)},
		{state(0, 9, 0, 0), 0, state(0, 10, 0, 0), nil},
		// The first value is no middle yet: the next one may be twice the tolerance away.
		{state(3, 1, 10, 10), 16, state(3, 2, 10, 16), nil},
		{state(3, 1, 10, 10), 17, state(3, 1, 17, 17), constant(1, 10)},
		{state(3, 1, 10, 10), 4, state(3, 2, 4, 10), nil},
		{state(3, 1, 10, 10), 3, state(3, 1, 3, 3), constant(1, 10)},
		// Between the ends, at them, beyond them, and too far.
		{state(3, 5, -1, 4), 0, state(3, 6, -1, 4), nil},
		{state(3, 5, -1, 4), -1, state(3, 6, -1, 4), nil},
		{state(3, 5, -1, 4), 4, state(3, 6, -1, 4), nil},
		{state(3, 5, -1, 4), 5, state(3, 6, -1, 5), nil},
		{state(3, 5, -1, 4), -2, state(3, 6, -2, 4), nil},
		{state(3, 5, -1, 4), 6, state(3, 1, 6, 6), constant(5, 1)},
		{state(3, 5, -1, 4), -3, state(3, 1, -3, -3), constant(5, 1)},
		{state(3, 5, -1, 4), greatest, state(3, 1, greatest, greatest), constant(5, 1)},
		{state(3, 5, -1, 4), least, state(3, 1, least, least), constant(5, 1)},
		// Distances that are no int64.
		{state(api.MaxTolerance, 1, least, least), 0, state(api.MaxTolerance, 2, least, 0), nil},
		{state(api.MaxTolerance, 1, least, least), 1, state(api.MaxTolerance, 1, 1, 1), constant(1, least)},
		{state(api.MaxTolerance, 1, greatest, greatest), -1, state(api.MaxTolerance, 2, -1, greatest), nil},
		{state(api.MaxTolerance, 1, greatest, greatest), -2, state(api.MaxTolerance, 1, -2, -2), constant(1, greatest)},
		{state(api.MaxTolerance, 1, greatest, greatest), least, state(api.MaxTolerance, 1, least, least), constant(1, greatest)},
		{state(0, 2, least, least), greatest, state(0, 1, greatest, greatest), constant(2, least)},
	} {
		checkStep(t, x.s, x.v, x.want, x.ended, api.OK)
		if next, ended := wantStep(x.s, x.v); next != x.want || !slices.Equal(ended, x.ended) {
			t.Errorf("%v, %d: the test expects both %v and %v", x.s, x.v, x.want, next)
		}
	}
}

func TestStepErrors(t *testing.T) {
	for _, s := range badStates() {
		// Some have the greatest count or a greater one: even so, the limit comes second.
		for _, v := range []int64{least, -1, 0, 1, s.Min, s.Max, greatest} {
			checkStep(t, s, v, none, nil, api.ErrInvalid)
		}
	}
	for _, s := range goodStates() {
		if s.Count == api.MaxStream {
			// The limit holds for a value that does not fit, too.
			for _, v := range []int64{least, -1, 0, 1, s.Min, s.Max, greatest} {
				checkStep(t, s, v, none, nil, api.ErrLimit)
			}
		}
	}
}

func TestStepUpToTheLimit(t *testing.T) {
	s, full := state(3, api.MaxStream-1, -1, 4), state(3, api.MaxStream, -1, 5)
	checkStep(t, s, 5, full, nil, api.OK)
	checkStep(t, s, 6, state(3, 1, 6, 6), constant(api.MaxStream-1, 1), api.OK)
	checkStep(t, full, 5, none, nil, api.ErrLimit)
	checkStep(t, full, 6, none, nil, api.ErrLimit)
	checkFinish(t, full, constant(api.MaxStream, 2), api.OK)
}

func TestStepOfAll(t *testing.T) {
	counts := map[string]int{}
	for _, s := range goodStates() {
		values := []int64{least, least + 6, least + 7, -1 << 62, -1000, -7, 0, 1, 6, 7, 1000, 1 << 62, greatest - 7, greatest - 6, greatest}
		for i := int64(-8); i <= 8; i++ {
			values = append(values, s.Min+i, s.Max+i, s.Min+2*s.Tolerance+i, s.Max-2*s.Tolerance+i)
		}
		for _, v := range values {
			if s.Count == api.MaxStream {
				checkStep(t, s, v, none, nil, api.ErrLimit)
				continue
			}
			next, ended := wantStep(s, v)
			checkStep(t, s, v, next, ended, api.OK)
			if !Valid(next) {
				t.Errorf("Step(%v, %d) = %v is not valid", s, v, next)
			}
			if len(ended) > 0 {
				counts["ended"]++
			} else {
				counts["fits"]++
			}
		}
	}
	if counts["ended"] < 500 || counts["fits"] < 500 {
		t.Errorf("%v: too few of one kind", counts)
	}
}

// Promise 15.3, of one state.

func TestFinish(t *testing.T) {
	for _, eps := range []int64{0, 3, api.MaxTolerance} {
		checkFinish(t, state(eps, 0, 0, 0), nil, api.OK)
		checkFinish(t, state(eps, 1, -2, -2), constant(1, -2), api.OK)
	}
	for _, s := range goodStates() {
		checkFinish(t, s, wantFinish(s), api.OK)
	}
	for _, s := range badStates() {
		checkFinish(t, s, nil, api.ErrInvalid)
	}
}

// Rule R1: anything may be an argument.

// anyNumber returns a number, of few bits as often as of many.
func anyNumber(random *rand.Rand) int64 {
	return int64(random.Uint64()) >> random.Intn(64)
}

func TestAnyState(t *testing.T) {
	random := rand.New(rand.NewSource(151))
	counts := map[api.Errno]int{}
	for range 50000 {
		s, v := state(anyNumber(random), int(anyNumber(random)), anyNumber(random), anyNumber(random)), anyNumber(random)
		if random.Intn(2) == 0 {
			s.Count, s.Max = 1+random.Intn(3), s.Min+random.Int63n(9)
		}
		next, ended, e := Step(s, v)
		rest, is := Finish(s)
		counts[e]++
		if !wantValid(s) {
			if Valid(s) || e != api.ErrInvalid || is != api.ErrInvalid || next != none || len(ended) > 0 || len(rest) > 0 {
				t.Errorf("%v is not valid: Step(%d) = %v, %v, %v, Finish = %v, %v", s, v, next, ended, e, rest, is)
			}
			continue
		}
		want, segments := wantStep(s, v)
		checkStep(t, s, v, want, segments, api.OK)
		checkFinish(t, s, wantFinish(s), api.OK)
	}
	if counts[api.OK] < 1000 || counts[api.ErrInvalid] < 1000 {
		t.Errorf("%v: too few of one kind", counts)
	}
}
