package series

import (
	"math"
	"math/rand"
	"slices"
	"testing"

	"tscodec/api"
)

// cut says what Cut is to return: what lies between two flushes is cut into pieces of a size.
func cut(l []api.Sample, size int, flushes []int) [][]api.Sample {
	if size < 1 {
		return nil
	}
	bounds := slices.DeleteFunc(slices.Clone(flushes), func(f int) bool { return f < 1 || f > len(l) })
	bounds = append(bounds, 0, len(l))
	slices.Sort(bounds)
	var out [][]api.Sample
	for i, end := range bounds[1:] {
		for rest := l[bounds[i]:end]; len(rest) > 0; {
			n := min(size, len(rest))
			out = append(out, rest[:n])
			rest = rest[n:]
		}
	}
	return out
}

// sizes returns the numbers of samples of the parts.
func sizes(parts [][]api.Sample) []int {
	out := make([]int, len(parts))
	for i, part := range parts {
		out[i] = len(part)
	}
	return out
}

// checkCut demands the parts of l and returns them.
func checkCut(t *testing.T, l []api.Sample, size int, flushes []int, want [][]api.Sample) [][]api.Sample {
	t.Helper()
	got := Cut(l, size, flushes)
	if !slices.EqualFunc(got, want, slices.Equal[[]api.Sample]) {
		t.Errorf("Cut of %d samples, %d, %v: %v, not %v", len(l), size, flushes, sizes(got), sizes(want))
	}
	return got
}

// subsets calls a function with all sets of numbers from 1 to n.
func subsets(n int, do func([]int)) {
	for bits := range 1 << n {
		var set []int
		for i := range n {
			if bits>>i&1 == 1 {
				set = append(set, i+1)
			}
		}
		do(set)
	}
}

// Promise 12.3.

func TestCut(t *testing.T) {
	for _, x := range []struct {
		n, size int
		flushes []int
		want    []int
	}{
		{7, 3, []int{4}, []int{3, 1, 3}},
		{0, 1, nil, nil},
		{0, 3, []int{-1, 0, 1}, nil},
		{1, 1, nil, []int{1}},
		{1, 3, nil, []int{1}},
		{1, 3, []int{1}, []int{1}},
		{7, 1, nil, []int{1, 1, 1, 1, 1, 1, 1}},
		{7, 1, []int{1, 2, 3, 4, 5, 6, 7}, []int{1, 1, 1, 1, 1, 1, 1}},
		{7, 3, nil, []int{3, 3, 1}},
		{6, 3, nil, []int{3, 3}},
		{6, 6, nil, []int{6}},
		{6, 7, nil, []int{6}},
		{6, math.MaxInt, nil, []int{6}},
		{6, math.MaxInt, []int{2, 5}, []int{2, 3, 1}},
		{6, math.MaxInt - 1, []int{1}, []int{1, 5}},
		// A part begins anew behind a flush, so its size counts from there.
		{9, 3, []int{1}, []int{1, 3, 3, 2}},
		{9, 3, []int{2, 4}, []int{2, 2, 3, 2}},
		// A flush where a part ends anyhow does not matter.
		{9, 3, []int{3}, []int{3, 3, 3}},
		{9, 3, []int{3, 6, 9}, []int{3, 3, 3}},
		// Any order, several times, and values out of range.
		{9, 4, []int{7, 2}, []int{2, 4, 1, 2}},
		{9, 4, []int{2, 7, 2, 7, 7}, []int{2, 4, 1, 2}},
		{9, 4, []int{math.MaxInt, 7, 10, 0, 2, -1, -2, -7, math.MinInt, 9}, []int{2, 4, 1, 2}},
		{9, 4, []int{0, -3, 10, 11}, []int{4, 4, 1}},
	} {
		l := counted(x.n)
		got := checkCut(t, l, x.size, x.flushes, cut(l, x.size, x.flushes))
		if !slices.Equal(sizes(got), x.want) {
			t.Errorf("Cut of %d samples, %d, %v: parts of %v, not %v", x.n, x.size, x.flushes, sizes(got), x.want)
		}
	}
}

func TestCutWithoutASize(t *testing.T) {
	for n := range 5 {
		for _, size := range []int{0, -1, -2, -n, math.MinInt + 1, math.MinInt} {
			for _, flushes := range [][]int{nil, {1}, {1, 2, 3, 4}, {0}, {-1}} {
				if got := Cut(counted(n), size, flushes); len(got) != 0 {
					t.Errorf("Cut of %d samples, %d, %v: %v", n, size, flushes, got)
				}
			}
		}
	}
}

func TestCutOfFewSamples(t *testing.T) {
	random := rand.New(rand.NewSource(124))
	for n := range 9 {
		l := counted(n)
		subsets(n, func(flushes []int) {
			for size := range n + 3 {
				want := cut(l, size, flushes)
				checkCut(t, l, size, flushes, want)
				more := append(slices.Clone(flushes), 0, -1, n+1, -n-1, math.MinInt, math.MaxInt)
				more = append(more, flushes...)
				random.Shuffle(len(more), func(i, j int) { more[i], more[j] = more[j], more[i] })
				checkCut(t, l, size, more, want)
			}
		})
	}
}

func TestCutOfManySamples(t *testing.T) {
	random := rand.New(rand.NewSource(125))
	for _, n := range []int{api.MaxChunk - 1, api.MaxChunk, api.MaxChunk + 1, api.MaxNumbers + 77} {
		l := counted(n)
		for _, size := range []int{1, 2, 1000, api.MaxChunk, n - 1, n, n + 1} {
			for _, count := range []int{0, 1, 10, 5000} {
				flushes := make([]int, count)
				for i := range flushes {
					flushes[i] = random.Intn(n+n/4) - n/8
				}
				checkCut(t, l, size, flushes, cut(l, size, flushes))
			}
		}
	}
}

func TestCutDoesNotAskForOrder(t *testing.T) {
	for _, l := range [][]api.Sample{at(3, 2, 1, 0, 9), at(1, 1, 1, 1), at(greatest, least, 0)} {
		checkCut(t, l, 2, []int{1}, cut(l, 2, []int{1}))
	}
}

// Promise 12.4.

// checkParts demands that the parts, joined, are l and that only those before a flush and the last one are short.
func checkParts(t *testing.T, l []api.Sample, size int, flushes []int) {
	t.Helper()
	parts := Cut(l, size, flushes)
	if !slices.Equal(slices.Concat(parts...), l) {
		t.Errorf("Cut of %d samples, %d, %v: the parts are not the sequence", len(l), size, flushes)
	}
	end := 0
	for _, part := range parts {
		end += len(part)
		short := slices.Contains(flushes, end) || end == len(l)
		if len(part) > size || len(part) < 1 || len(part) < size && !short {
			t.Errorf("Cut of %d samples, %d, %v: a part of %d samples", len(l), size, flushes, len(part))
		}
	}
}

func TestPartsOfFewSamples(t *testing.T) {
	for n := range 9 {
		subsets(n, func(flushes []int) {
			for size := 1; size < n+3; size++ {
				checkParts(t, counted(n), size, flushes)
			}
		})
	}
}

func TestPartsAtRandom(t *testing.T) {
	random := rand.New(rand.NewSource(126))
	for range 5000 {
		n := random.Intn(200)
		flushes := make([]int, random.Intn(8))
		for i := range flushes {
			flushes[i] = random.Intn(240) - 20
		}
		checkParts(t, randomSamples(random, n), 1+random.Intn(30), flushes)
	}
}

func FuzzCut(f *testing.F) {
	f.Add(7, 3, 4, 4)
	f.Add(0, 1, 0, 1)
	f.Add(9, -1, 2, 3)
	f.Add(9, math.MaxInt, math.MinInt, math.MaxInt)
	f.Fuzz(func(t *testing.T, n, size, first, second int) {
		l := counted(int(uint(n) % 1000))
		flushes := []int{first, second}
		checkCut(t, l, size, flushes, cut(l, size, flushes))
		if size >= 1 {
			checkParts(t, l, size, flushes)
		}
	})
}
