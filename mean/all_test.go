package mean

import (
	"encoding/binary"
	"math/big"
	"math/rand"
	"slices"
	"testing"

	"tscodec/api"
)

// sumOfAll returns the sum of a list.
func sumOfAll(l []int64) *big.Int {
	sum := new(big.Int)
	for _, v := range l {
		sum.Add(sum, big.NewInt(v))
	}
	return sum
}

// fits says whether the mean of a list that is not empty, rounded down, is within eps of all of its values.
func fits(l []int64, eps int64) bool {
	mean := meanOf(sumOfAll(l), len(l))
	return !slices.ContainsFunc(l, func(v int64) bool { return !inReach(mean, v, eps) })
}

// wantAll says what All is to return: a segment grows as long as each beginning of it fits.
func wantAll(l []int64, eps int64) []api.Constant {
	var out []api.Constant
	for len(l) > 0 {
		n := 1
		for n < len(l) && fits(l[:n+1], eps) {
			n++
		}
		out = append(out, api.Constant{Count: n, Value: meanOf(sumOfAll(l[:n]), n).Int64()})
		l = l[n:]
	}
	return out
}

// checkAll demands the segments of All, and what 16.3 and 16.4 say of them. It returns them.
func checkAll(t *testing.T, l []int64, eps int64) []api.Constant {
	t.Helper()
	got, e := All(l, eps)
	if want := wantAll(l, eps); e != api.OK || !slices.Equal(got, want) {
		t.Fatalf("All(%v, %d) = %v, %v, not %v", l, eps, got, e, want)
	}
	checkSteps(t, l, eps, got)
	checkPurpose(t, l, eps, got)
	return got
}

// checkSteps demands that Start, Step and Finish give the segments of All.
func checkSteps(t *testing.T, l []int64, eps int64, want []api.Constant) {
	t.Helper()
	var segments []api.Constant
	s, e := Start(eps)
	for i := 0; i < len(l) && e == api.OK; i++ {
		var ended []api.Constant
		s, ended, e = Step(s, l[i])
		segments = append(segments, ended...)
		if len(ended) > 1 || !Valid(s) || s.Count == 0 || s.Tolerance != eps {
			t.Errorf("All(%v, %d), value %d: %v, %v", l, eps, i, s, ended)
		}
	}
	rest, is := Finish(s)
	if segments = append(segments, rest...); e != api.OK || is != api.OK || !slices.Equal(segments, want) {
		t.Errorf("All(%v, %d) = %v, but the steps give %v, %v, %v", l, eps, want, segments, e, is)
	}
}

// checkPurpose demands that segments stand for all values, keep the tolerance and have the mean.
func checkPurpose(t *testing.T, l []int64, eps int64, segments []api.Constant) {
	t.Helper()
	rest := l
	for _, x := range segments {
		if x.Count < 1 || x.Count > len(rest) {
			t.Fatalf("All(%v, %d): %v with %d values left", l, eps, x, len(rest))
		}
		for _, v := range rest[:x.Count] {
			if !inReach(big.NewInt(x.Value), v, eps) {
				t.Errorf("All(%v, %d): %v does not keep the tolerance at %d", l, eps, x, v)
			}
		}
		// What the sum has beyond Count times the mean is less than Count.
		over := new(big.Int).Mul(big.NewInt(int64(x.Count)), big.NewInt(x.Value))
		over.Sub(sumOfAll(rest[:x.Count]), over)
		if over.Sign() < 0 || over.Cmp(big.NewInt(int64(x.Count))) >= 0 {
			t.Errorf("All(%v, %d): %v does not have the mean of its values", l, eps, x)
		}
		rest = rest[x.Count:]
	}
	if len(rest) > 0 {
		t.Errorf("All(%v, %d): no segments for %d values", l, eps, len(rest))
	}
}

// Promise 16.3.

func TestAll(t *testing.T) {
	for _, x := range []struct {
		l    []int64
		eps  int64
		want []api.Constant
	}{
		{nil, 0, nil},
		{nil, api.MaxTolerance, nil},
		{[]int64{-8}, 0, constant(1, -8)},
		{[]int64{greatest}, 5, constant(1, greatest)},
		{[]int64{0, 0, 0, 4}, 2, []api.Constant{{Count: 3}, {Count: 1, Value: 4}}},
		{[]int64{0, 3}, 2, constant(2, 1)},
		{[]int64{0, 1}, 0, []api.Constant{{Count: 1}, {Count: 1, Value: 1}}},
		{[]int64{0, 1}, 1, constant(2, 0)},
		{[]int64{-1, 0}, 1, constant(2, -1)},
		{[]int64{-1, -2, -2}, 1, constant(3, -2)},
		{[]int64{3, 3, 3, 3}, 0, constant(4, 3)},
		{[]int64{4, 4, 5, 5, 5, 4}, 0, []api.Constant{{Count: 2, Value: 4}, {Count: 3, Value: 5}, {Count: 1, Value: 4}}},
		// It is the mean, and not the middle of the range or the median.
		{[]int64{0, 0, 0, 4}, 3, constant(4, 1)},
		{[]int64{0, 0, 4, 4, 4}, 3, constant(5, 2)},
		{[]int64{0, 0, 9, 9, 9}, 9, constant(5, 5)},
		// What fits depends on the order.
		{[]int64{4, 0, 0, 0}, 2, []api.Constant{{Count: 2, Value: 2}, {Count: 2}}},
		{[]int64{0, 4, 0, 4}, 2, []api.Constant{{Count: 2, Value: 2}, {Count: 2, Value: 2}}},
		{[]int64{0, 4, 4, 0}, 2, constant(4, 2)},
		{[]int64{0, 4, 4, 4}, 2, []api.Constant{{Count: 3, Value: 2}, {Count: 1, Value: 4}}},
		// All values would fit, but not those before them.
		{[]int64{0, 5, 2, 2}, 3, constant(4, 2)},
		{[]int64{0, 5, 3, 3}, 2, []api.Constant{{Count: 1}, {Count: 3, Value: 3}}},
		{[]int64{0, 0, 4, 4}, 2, []api.Constant{{Count: 2}, {Count: 2, Value: 4}}},
		// A segment begins with the value that did not fit, without the sum and the range before it.
		{[]int64{0, 3, 6, 4, 8}, 2, []api.Constant{{Count: 2, Value: 1}, {Count: 3, Value: 6}}},
		{[]int64{100, 100, 0, 4, 5}, 2, []api.Constant{{Count: 2, Value: 100}, {Count: 2, Value: 2}, {Count: 1, Value: 5}}},
		{[]int64{least, greatest, least}, api.MaxTolerance, []api.Constant{{Count: 1, Value: least}, {Count: 1, Value: greatest}, {Count: 1, Value: least}}},
		{[]int64{least, 0, least, 0, greatest}, api.MaxTolerance, []api.Constant{{Count: 2, Value: -1 << 62}, {Count: 2, Value: -1 << 62}, {Count: 1, Value: greatest}}},
		// Sums that are no int64.
		{[]int64{greatest, greatest, greatest - 1}, 1, constant(3, greatest-1)},
		{[]int64{least, least, least + 1, least, least}, 1, constant(5, least)},
		{[]int64{greatest, greatest, greatest, greatest, least, least, least}, 0, []api.Constant{{Count: 4, Value: greatest}, {Count: 3, Value: least}}},
	} {
		if got := checkAll(t, x.l, x.eps); !slices.Equal(got, x.want) {
			t.Errorf("All(%v, %d) = %v, not %v", x.l, x.eps, got, x.want)
		}
	}
}

func TestAllErrors(t *testing.T) {
	for _, l := range [][]int64{nil, {0}, {1, 2, 3}, {least, greatest}} {
		for _, eps := range []int64{-1, -api.MaxTolerance, least, api.MaxTolerance + 1, greatest} {
			if got, e := All(l, eps); len(got) > 0 || e != api.ErrTolerance {
				t.Errorf("All(%v, %d) = %v, %v", l, eps, got, e)
			}
		}
		for _, eps := range []int64{0, 1, api.MaxTolerance} {
			checkAll(t, l, eps)
		}
	}
}

// TestAllOfMany has more values than a chunk or a list of numbers may have.
func TestAllOfMany(t *testing.T) {
	n := 7 * (api.MaxNumbers/7 + 5)
	l := make([]int64, n)
	for i := range l {
		l[i] = greatest - int64(i%7)
	}
	if got, e := All(l, 6); e != api.OK || !slices.Equal(got, constant(n, greatest-3)) {
		t.Errorf("one segment: %v, %v", got, e)
	}
	for i := range l {
		l[i] = int64(i / 7 * 5)
	}
	got, e := All(l, 1)
	if e != api.OK || len(got) != n/7 {
		t.Fatalf("%d segments of %d values, %v", len(got), n, e)
	}
	for i, x := range got {
		if x != (api.Constant{Count: 7, Value: int64(i * 5)}) {
			t.Fatalf("segment %d is %v", i, x)
		}
	}
}

// Promise 16.4.

// TestAllOfSmall takes all lists of up to six values from -2 to 2.
func TestAllOfSmall(t *testing.T) {
	counts := map[int]int{}
	var extendAll func(l []int64)
	extendAll = func(l []int64) {
		for eps := range int64(4) {
			counts[len(checkAll(t, l, eps))]++
		}
		if len(l) == 6 {
			return
		}
		for v := int64(-2); v <= 2; v++ {
			extendAll(append(slices.Clone(l), v))
		}
	}
	extendAll(nil)
	if counts[0] != 4 || counts[1] < 1000 || counts[2] < 1000 || counts[3] < 1000 || counts[6] < 1000 || counts[7] > 0 {
		t.Errorf("the numbers of segments are %v", counts)
	}
}

// TestAllAtTheEnds takes values at the ends of the range and around 0.
func TestAllAtTheEnds(t *testing.T) {
	values := []int64{least, least + 1, -1 << 62, -1, 0, 1, 1 << 62, greatest - 1, greatest}
	random := rand.New(rand.NewSource(162))
	for range 2000 {
		l := make([]int64, random.Intn(10))
		for i := range l {
			l[i] = values[random.Intn(len(values))]
		}
		for _, eps := range []int64{0, 1, 1 << 61, 1<<62 - 1, api.MaxTolerance} {
			checkAll(t, l, eps)
		}
	}
}

func TestAllAtRandom(t *testing.T) {
	random := rand.New(rand.NewSource(163))
	long := 0
	for range 1500 {
		l := make([]int64, random.Intn(60))
		v, step := anyNumber(random)>>2, int64(1)<<random.Intn(50)
		for i := range l {
			v += random.Int63n(2*step+1) - step
			l[i] = v
		}
		for _, x := range checkAll(t, l, step*random.Int63n(4)+random.Int63n(3)) {
			if x.Count > 5 && x.Count < len(l) {
				long++
			}
		}
	}
	if long < 1000 {
		t.Errorf("only %d segments have many values, but not all", long)
	}
}

func TestAllOfAnyNumbers(t *testing.T) {
	random := rand.New(rand.NewSource(164))
	for range 3000 {
		l := make([]int64, random.Intn(12))
		for i := range l {
			l[i] = anyNumber(random)
		}
		checkAll(t, l, anyNumber(random)&(api.MaxTolerance-1))
	}
}

func FuzzAll(f *testing.F) {
	f.Add([]byte{0, 0, 0, 0, 0, 0, 4, 0}, int64(2))
	f.Add([]byte{0, 128, 255, 127, 0, 128}, int64(api.MaxTolerance))
	f.Add([]byte{1, 2, 3, 4}, int64(-1))
	f.Fuzz(func(t *testing.T, b []byte, eps int64) {
		var l []int64
		// Two bytes a value: one near 0 or one near the ends of the range.
		for ; len(b) >= 2 && len(l) < 100; b = b[2:] {
			v := int64(int16(binary.LittleEndian.Uint16(b)))
			l = append(l, v<<(b[0]&1*48))
		}
		if eps < 0 || eps > api.MaxTolerance {
			if got, e := All(l, eps); e != api.ErrTolerance || len(got) > 0 {
				t.Errorf("All(%v, %d) = %v, %v", l, eps, got, e)
			}
			return
		}
		checkAll(t, l, eps)
	})
}

// Rules R2 to R4.

func TestValuesAreKept(t *testing.T) {
	backing := []int64{9, 9, 1, 2, 5, 6, -7, 8, 9, 9}
	was := slices.Clone(backing)
	for end := 2; end <= 8; end++ {
		first, _ := All(backing[2:end], 2)
		second, _ := All(backing[2:end], 2)
		want := wantAll(was[2:end], 2)
		spoil(first)
		if !slices.Equal(backing, was) || !slices.Equal(second, want) {
			t.Errorf("%d values: an argument has changed, or results share memory", end-2)
		}
	}
}

func TestSegmentsHaveMemoryOfTheirOwn(t *testing.T) {
	s := state(2, 3, 1, 5, 9)
	_, first, _ := Step(s, 7)
	_, second, _ := Step(s, 7)
	rest, _ := Finish(s)
	more, _ := Finish(s)
	spoil(first)
	spoil(rest)
	if want := constant(3, 3); !slices.Equal(second, want) || !slices.Equal(more, want) {
		t.Errorf("%v and %v: results share memory", second, more)
	}
}

// spoil changes each segment of a list and of the memory behind it.
func spoil(l []api.Constant) {
	l = l[:cap(l)]
	for i := range l {
		l[i] = api.Constant{Count: -1, Value: -1}
	}
}

func TestNilAndEmpty(t *testing.T) {
	for _, l := range [][]int64{nil, {}, make([]int64, 0, 5)} {
		if got, e := All(l, 3); len(got) != 0 || e != api.OK {
			t.Errorf("All of no values: %v, %v", got, e)
		}
	}
}
