package series

import (
	"math"
	"slices"
	"testing"

	"tscodec/api"
)

// Rules 2 and 3: a list is changed up to its capacity, and nothing else may change with it.

// spoil changes each element of a list and of the memory behind it.
func spoil[A any](l []A, change func(*A)) {
	all := l[:cap(l)]
	for i := range all {
		change(&all[i])
	}
}

// spoilSamples changes samples.
func spoilSamples(l []api.Sample) {
	spoil(l, func(x *api.Sample) { *x = sample(^x.T, ^x.V) })
}

// spoilNumbers changes numbers.
func spoilNumbers(l []int64) {
	spoil(l, func(v *int64) { *v = ^*v })
}

func TestSamplesAreKept(t *testing.T) {
	for n := range 9 {
		backing := counted(n + 4)
		was := slices.Clone(backing)
		l := backing[2 : 2+n]
		times, values, whole := Times(l), Values(l), Range(l, least, greatest)
		wantTimes, wantValues, wantRange := Times(l), Values(l), Range(l, least, greatest)
		if Check(l) != api.OK || !Within(l, l, 0) {
			t.Errorf("%d samples are not in order or not like themselves", n)
		}
		spoilNumbers(times)
		spoilNumbers(values)
		spoilSamples(whole)
		if !slices.Equal(backing, was) {
			t.Errorf("%d samples: an argument has changed", n)
		}
		if !slices.Equal(Times(l), wantTimes) || !slices.Equal(Values(l), wantValues) || !slices.Equal(wantRange, was[2:2+n]) {
			t.Errorf("%d samples: results share memory", n)
		}
	}
}

func TestNumbersAreKept(t *testing.T) {
	times, values := []int64{9, 1, 2, 3, 9}, []int64{8, 4, 5, 6, 8}
	wasTimes, wasValues := slices.Clone(times), slices.Clone(values)
	first, _ := Join(times[1:4], values[1:4])
	second, _ := Join(times[1:4], values[1:4])
	spoilSamples(first)
	if !slices.Equal(times, wasTimes) || !slices.Equal(values, wasValues) {
		t.Errorf("%v and %v: an argument has changed", times, values)
	}
	if !slices.Equal(second, []api.Sample{sample(1, 4), sample(2, 5), sample(3, 6)}) {
		t.Errorf("%v: results share memory", second)
	}
}

func TestPartsHaveMemoryOfTheirOwn(t *testing.T) {
	flushes := []int{99, 4, 0, 2, 99}
	wasFlushes := slices.Clone(flushes)
	backing := counted(15)
	was := slices.Clone(backing)
	l := backing[2:13]
	for _, size := range []int{1, 2, 3, 4, 11, 20, math.MaxInt} {
		want := cut(was[2:13], size, flushes[1:4])
		other := Cut(l, size, flushes[1:4])
		for i := range want {
			// One part is changed at a time, so that the others show it.
			got := Cut(l, size, flushes[1:4])
			spoilSamples(got[i])
			got[i] = want[i]
			if !slices.EqualFunc(got, want, slices.Equal[[]api.Sample]) {
				t.Errorf("size %d: part %d shares memory with another one", size, i)
			}
		}
		if !slices.Equal(backing, was) || !slices.Equal(flushes, wasFlushes) {
			t.Errorf("size %d: an argument has changed", size)
		}
		if !slices.EqualFunc(other, want, slices.Equal[[]api.Sample]) {
			t.Errorf("size %d: results share memory", size)
		}
	}
}

func TestNilAndEmpty(t *testing.T) {
	for _, l := range [][]api.Sample{nil, {}, make([]api.Sample, 0, 5)} {
		checkCheck(t, l, api.OK)
		if len(Times(l)) != 0 || len(Values(l)) != 0 || len(Range(l, least, greatest)) != 0 {
			t.Error("a list without samples has some")
		}
		for _, flushes := range [][]int{nil, {}, {0, 1}} {
			checkCut(t, l, 1, flushes, nil)
			checkCut(t, l, 0, flushes, nil)
		}
	}
	for _, x := range [][2][]int64{{nil, nil}, {nil, {}}, {{}, nil}, {{}, {}}} {
		if l, ok := Join(x[0], x[1]); !ok || len(l) != 0 {
			t.Errorf("Join of no times and no values: %v, %t", l, ok)
		}
	}
	l := counted(5)
	checkCut(t, l, 2, []int{}, cut(l, 2, nil))
	checkCut(t, l, 2, nil, cut(l, 2, []int{}))
}
