package series

import (
	"math"
	"math/big"
	"math/rand"
	"slices"
	"testing"

	"tscodec/api"
)

const (
	least    = math.MinInt64
	greatest = math.MaxInt64
)

// sample returns a sample.
func sample(t, v int64) api.Sample {
	return api.Sample{T: t, V: v}
}

// counted returns n samples, all different, with times that increase strictly.
func counted(n int) []api.Sample {
	l := make([]api.Sample, n)
	for i := range l {
		l[i] = sample(int64(10*i-20), int64(7*i%5-3))
	}
	return l
}

// at returns samples with these times, and values that are their indexes.
func at(times ...int64) []api.Sample {
	l := make([]api.Sample, len(times))
	for i, t := range times {
		l[i] = sample(t, int64(i))
	}
	return l
}

// ends returns numbers at the ends of the range and around 0.
func ends() []int64 {
	return []int64{least, least + 1, -2, -1, 0, 1, 2, greatest - 1, greatest}
}

// lists calls a function with all lists of at most n elements of ends.
func lists(n int, do func([]int64)) {
	var extend func([]int64)
	extend = func(l []int64) {
		do(l)
		if len(l) == n {
			return
		}
		for _, v := range ends() {
			extend(append(slices.Clone(l), v))
		}
	}
	extend(nil)
}

// randomNumber returns a number, of few bits as often as of many.
func randomNumber(random *rand.Rand) int64 {
	return int64(random.Uint64()) >> random.Intn(64)
}

// randomSamples returns n samples whose times may be in any order and equal.
func randomSamples(random *rand.Rand, n int) []api.Sample {
	l := make([]api.Sample, n)
	for i := range l {
		l[i] = sample(randomNumber(random), randomNumber(random))
	}
	return l
}

// increasing says whether the times of l increase strictly, by integers without bounds.
func increasing(l []api.Sample) bool {
	for i := range len(l) - 1 {
		step := new(big.Int).Sub(big.NewInt(l[i+1].T), big.NewInt(l[i].T))
		if step.Sign() <= 0 {
			return false
		}
	}
	return true
}

// near says whether a and b differ by at most eps, by integers without bounds.
func near(a, b, eps int64) bool {
	difference := new(big.Int).Sub(big.NewInt(a), big.NewInt(b))
	return difference.Abs(difference).Cmp(big.NewInt(eps)) <= 0
}

// within says what Within is to return.
func within(a, b []api.Sample, eps int64) bool {
	same, all := len(a) == len(b), true
	for i := range min(len(a), len(b)) {
		same = same && a[i].T == b[i].T
		all = all && near(a[i].V, b[i].V, eps)
	}
	return same && all
}

// checkCheck demands a result of Check.
func checkCheck(t *testing.T, l []api.Sample, want api.Errno) {
	t.Helper()
	if got := Check(l); got != want {
		t.Errorf("Check(%v) = %v, not %v", l, got, want)
	}
}

// checkWithin demands a result of Within, also the other way round.
func checkWithin(t *testing.T, a, b []api.Sample, eps int64, want bool) {
	t.Helper()
	if got := Within(a, b, eps); got != want {
		t.Errorf("Within(%v, %v, %d) = %t", a, b, eps, got)
	}
	if got := Within(b, a, eps); got != want {
		t.Errorf("Within(%v, %v, %d) = %t", b, a, eps, got)
	}
}

// checkRange demands the samples of a range.
func checkRange(t *testing.T, l []api.Sample, from, to int64, want []api.Sample) {
	t.Helper()
	if got := Range(l, from, to); !slices.Equal(got, want) {
		t.Errorf("Range(%v, %d, %d) = %v, not %v", l, from, to, got, want)
	}
}

// Promise 12.1.

func TestCheck(t *testing.T) {
	for _, x := range []struct {
		l    []api.Sample
		want api.Errno
	}{
		{nil, api.OK},
		{at(0), api.OK},
		{at(least), api.OK},
		{at(greatest), api.OK},
		{at(1, 2), api.OK},
		{at(1, 1), api.ErrOrder},
		{at(2, 1), api.ErrOrder},
		{at(0, 10, 20, 30), api.OK},
		{at(0, 10, 10, 30), api.ErrOrder},
		{at(0, 10, 9, 30), api.ErrOrder},
		{at(0, 0, 10, 20), api.ErrOrder},
		{at(0, 10, 20, 20), api.ErrOrder},
		{at(0, 10, 20, 19), api.ErrOrder},
		{at(least, greatest), api.OK},
		{at(greatest, least), api.ErrOrder},
		{at(least, least), api.ErrOrder},
		{at(greatest, greatest), api.ErrOrder},
		{at(greatest-1, greatest), api.OK},
		{at(least, -1, 0, greatest), api.OK},
		{at(least, 0, -1, greatest), api.ErrOrder},
	} {
		checkCheck(t, x.l, x.want)
	}
}

func TestCheckLooksAtTheTimesOnly(t *testing.T) {
	for _, v := range ends() {
		for _, w := range ends() {
			checkCheck(t, []api.Sample{sample(1, v), sample(2, w)}, api.OK)
			checkCheck(t, []api.Sample{sample(2, v), sample(2, w)}, api.ErrOrder)
			checkCheck(t, []api.Sample{sample(3, v), sample(2, w)}, api.ErrOrder)
		}
	}
}

func TestCheckAtTheEnds(t *testing.T) {
	accepted := 0
	lists(4, func(times []int64) {
		l := at(times...)
		want := api.ErrOrder
		if increasing(l) {
			want = api.OK
			accepted++
		}
		checkCheck(t, l, want)
	})
	if accepted != 1+9+36+84+126 {
		t.Errorf("the test accepts %d lists", accepted)
	}
}

func TestCheckHasNoLimit(t *testing.T) {
	l := counted(api.MaxNumbers + 5)
	checkCheck(t, l, api.OK)
	for _, i := range []int{0, 1, 1000, len(l) - 2} {
		bent := slices.Clone(l)
		bent[i+1].T = bent[i].T
		if e := Check(bent); e != api.ErrOrder {
			t.Errorf("two equal times from %d on: %v", i, e)
		}
	}
}

func TestFields(t *testing.T) {
	lists(3, func(times []int64) {
		l := make([]api.Sample, len(times))
		values := make([]int64, len(times))
		for i, v := range times {
			values[i] = ^v - int64(i)
			l[i] = sample(v, values[i])
		}
		if got := Times(l); !slices.Equal(got, times) {
			t.Errorf("Times(%v) = %v", l, got)
		}
		if got := Values(l); !slices.Equal(got, values) {
			t.Errorf("Values(%v) = %v", l, got)
		}
		if got, ok := Join(times, values); !ok || !slices.Equal(got, l) {
			t.Errorf("Join(%v, %v) = %v, %t", times, values, got, ok)
		}
	})
}

func TestFieldsOfMany(t *testing.T) {
	random := rand.New(rand.NewSource(121))
	l := randomSamples(random, api.MaxNumbers+5)
	times, values := Times(l), Values(l)
	if len(times) != len(l) || len(values) != len(l) {
		t.Fatalf("%d times and %d values", len(times), len(values))
	}
	for i, x := range l {
		if times[i] != x.T || values[i] != x.V {
			t.Fatalf("%d: %d and %d, not %v", i, times[i], values[i], x)
		}
	}
	if back, ok := Join(times, values); !ok || !slices.Equal(back, l) {
		t.Errorf("%d samples, %t", len(back), ok)
	}
}

func TestJoinOfDifferentLengths(t *testing.T) {
	for n := range 6 {
		for m := range 6 {
			l, ok := Join(make([]int64, n, 6), make([]int64, m, 6))
			want := n
			if n != m {
				want = 0
			}
			if ok != (n == m) || len(l) != want {
				t.Errorf("%d times and %d values: %v, %t", n, m, l, ok)
			}
		}
	}
}

// Promise 12.2.

func TestWithin(t *testing.T) {
	a := []api.Sample{sample(1, 10), sample(2, -10), sample(5, 0)}
	for _, x := range []struct {
		b    []api.Sample
		eps  int64
		want bool
	}{
		{a, 0, true},
		{a, 1, true},
		{a, greatest, true},
		{a, -1, false},
		{a, least, false},
		{[]api.Sample{sample(1, 13), sample(2, -10), sample(5, 0)}, 2, false},
		{[]api.Sample{sample(1, 13), sample(2, -10), sample(5, 0)}, 3, true},
		{[]api.Sample{sample(1, 7), sample(2, -7), sample(5, -3)}, 3, true},
		{[]api.Sample{sample(1, 7), sample(2, -7), sample(5, -3)}, 2, false},
		{[]api.Sample{sample(1, 10), sample(2, -14), sample(5, 0)}, 3, false},
		{[]api.Sample{sample(1, 10), sample(2, -10), sample(5, 4)}, 3, false},
		{[]api.Sample{sample(0, 10), sample(2, -10), sample(5, 0)}, greatest, false},
		{[]api.Sample{sample(1, 10), sample(3, -10), sample(5, 0)}, greatest, false},
		{[]api.Sample{sample(1, 10), sample(2, -10), sample(6, 0)}, greatest, false},
		{a[:2], greatest, false},
		{a[1:], greatest, false},
		{nil, greatest, false},
		{[]api.Sample{sample(1, 10), sample(2, -10), sample(5, 0), sample(6, 0)}, greatest, false},
	} {
		checkWithin(t, a, x.b, x.eps, x.want)
		if within(a, x.b, x.eps) != x.want {
			t.Errorf("%v, %d: the test expects both", x.b, x.eps)
		}
	}
}

func TestWithinOfNoSamples(t *testing.T) {
	for _, eps := range ends() {
		// Where there are no values, none differ by more.
		checkWithin(t, nil, nil, eps, true)
		checkWithin(t, []api.Sample{}, nil, eps, true)
		checkWithin(t, []api.Sample{}, []api.Sample{}, eps, true)
		checkWithin(t, nil, at(0), eps, false)
	}
}

func TestWithinAtTheEnds(t *testing.T) {
	for _, v := range ends() {
		for _, w := range ends() {
			for _, eps := range ends() {
				a := []api.Sample{sample(least, v), sample(greatest, 0)}
				b := []api.Sample{sample(least, w), sample(greatest, 0)}
				checkWithin(t, a, b, eps, eps >= 0 && near(v, w, eps))
				checkWithin(t, b, []api.Sample{sample(v, 0), sample(w, 0)}, eps, within(b, []api.Sample{sample(v, 0), sample(w, 0)}, eps))
			}
		}
	}
}

func TestWithinAtRandom(t *testing.T) {
	random := rand.New(rand.NewSource(122))
	counts := map[bool]int{}
	for range 20000 {
		a := randomSamples(random, random.Intn(8))
		b := slices.Clone(a)
		eps := randomNumber(random)
		for i := range b {
			b[i].V += randomNumber(random) >> 8
		}
		if random.Intn(4) == 0 && len(b) > 0 {
			b[random.Intn(len(b))].T ^= 1 << random.Intn(64)
		}
		want := within(a, b, eps)
		counts[want]++
		checkWithin(t, a, b, eps, want)
	}
	if counts[true] < 1000 || counts[false] < 1000 {
		t.Errorf("%v: too few of one result", counts)
	}
}

func TestWithinDoesNotAskForOrder(t *testing.T) {
	for _, a := range [][]api.Sample{at(3, 2, 1), at(1, 1), at(greatest, least, 0)} {
		b := slices.Clone(a)
		checkWithin(t, a, b, 0, true)
		b[1].V += 4
		checkWithin(t, a, b, 3, false)
		checkWithin(t, a, b, 4, true)
		// The times are the same only in the same order.
		slices.Reverse(b)
		checkWithin(t, a, b, greatest, a[0].T == b[0].T)
	}
}

func TestRange(t *testing.T) {
	l := at(-20, -10, 0, 10, 20)
	for _, x := range []struct {
		from, to   int64
		begin, end int
	}{
		{-20, 20, 0, 5},
		{-19, 20, 1, 5},
		{-20, 19, 0, 4},
		{-10, 10, 1, 4},
		{-9, 9, 2, 3},
		{0, 0, 2, 3},
		{1, 9, 0, 0},
		{1, -1, 0, 0},
		{10, -10, 0, 0},
		{10, 9, 0, 0},
		{-99, -21, 0, 0},
		{21, 99, 0, 0},
		{20, 99, 4, 5},
		{-99, -20, 0, 1},
		{least, greatest, 0, 5},
		{greatest, least, 0, 0},
		{least, least, 0, 0},
		{greatest, greatest, 0, 0},
		{least, 0, 0, 3},
		{0, greatest, 2, 5},
	} {
		checkRange(t, l, x.from, x.to, l[x.begin:x.end])
		checkRange(t, nil, x.from, x.to, nil)
	}
}

func TestRangeAtTheEnds(t *testing.T) {
	times := ends()
	l := at(times...)
	for i, from := range times {
		for j, to := range times {
			checkRange(t, l, from, to, l[i:max(i, j+1)])
		}
	}
}

func TestRangeOfSamplesInAnyOrder(t *testing.T) {
	l := at(5, 1, 9, 5, 3, 7, least, 5, greatest)
	for _, x := range []struct {
		from, to int64
		want     []int
	}{
		{5, 5, []int{0, 3, 7}},
		{1, 5, []int{0, 1, 3, 4, 7}},
		{6, 9, []int{2, 5}},
		{4, 4, nil},
		{9, 1, nil},
		{least, 0, []int{6}},
		{8, greatest, []int{2, 8}},
		{least, greatest, []int{0, 1, 2, 3, 4, 5, 6, 7, 8}},
	} {
		var want []api.Sample
		for _, i := range x.want {
			want = append(want, l[i])
		}
		checkRange(t, l, x.from, x.to, want)
	}
}

func TestRangeAtRandom(t *testing.T) {
	random := rand.New(rand.NewSource(123))
	found := 0
	for range 5000 {
		l := randomSamples(random, random.Intn(20))
		if random.Intn(2) == 0 {
			slices.SortFunc(l, func(a, b api.Sample) int { return big.NewInt(a.T).Cmp(big.NewInt(b.T)) })
		}
		from, to := randomNumber(random), randomNumber(random)
		want := slices.DeleteFunc(slices.Clone(l), func(x api.Sample) bool {
			return big.NewInt(x.T).Cmp(big.NewInt(from)) < 0 || big.NewInt(x.T).Cmp(big.NewInt(to)) > 0
		})
		if len(want) > 0 && len(want) < len(l) {
			found++
		}
		checkRange(t, l, from, to, want)
	}
	if found < 1000 {
		t.Errorf("only %d ranges have some of the samples", found)
	}
}
