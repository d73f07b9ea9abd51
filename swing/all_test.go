package swing

import (
	"encoding/binary"
	"math/big"
	"math/rand"
	"slices"
	"testing"

	"tscodec/api"
	"tscodec/ratio"
)

// all says what All is to return for times that increase strictly.
func all(l []api.Sample, eps int64) []api.Line {
	var lines []api.Line
	s := api.SwingState{Tolerance: eps}
	for _, x := range l {
		next, ended := step(s, x)
		s, lines = next, append(lines, ended...)
	}
	return append(lines, finish(s)...)
}

// checkAll demands the lines of All, by steps of the test, and what 14.4 and 14.5 say of them. It returns them.
func checkAll(t *testing.T, l []api.Sample, eps int64) []api.Line {
	t.Helper()
	got, e := All(l, eps)
	if want := all(l, eps); e != api.OK || !slices.Equal(got, want) {
		t.Fatalf("All(%v, %d) = %v, %v, not %v", l, eps, got, e, want)
	}
	checkSteps(t, l, eps, got)
	checkPurpose(t, l, eps, got)
	return got
}

// checkSteps demands that Start, Step and Finish give the lines of All.
func checkSteps(t *testing.T, l []api.Sample, eps int64, want []api.Line) {
	t.Helper()
	var lines []api.Line
	s, e := Start(eps)
	for i := 0; i < len(l) && e == api.OK; i++ {
		var ended []api.Line
		s, ended, e = Step(s, l[i])
		lines = append(lines, ended...)
		if len(ended) > 1 || !Valid(s) || s.Count == 0 || s.Last != l[i].T || s.Tolerance != eps {
			t.Errorf("All(%v, %d), sample %d: %v, %v", l, eps, i, s, ended)
		}
	}
	rest, is := Finish(s)
	if lines = append(lines, rest...); e != api.OK || is != api.OK || !slices.Equal(lines, want) {
		t.Errorf("All(%v, %d) = %v, but the steps give %v, %v, %v", l, eps, want, lines, e, is)
	}
}

// checkPurpose demands that lines stand for all samples, keep the tolerance and are maximal.
func checkPurpose(t *testing.T, l []api.Sample, eps int64, lines []api.Line) {
	t.Helper()
	rest := l
	for _, x := range lines {
		if x.Count < 1 || x.Count > len(rest) {
			t.Fatalf("All(%v, %d): %v with %d samples left", l, eps, x, len(rest))
		}
		for _, y := range rest[:x.Count] {
			value := new(big.Int).Add(big.NewInt(x.Value), number(ratio.At(x.Slope, minus(y.T, rest[0].T).Uint64())))
			if value.Sub(value, big.NewInt(y.V)).CmpAbs(big.NewInt(eps)) > 0 {
				t.Errorf("All(%v, %d): %v does not keep the tolerance at %v", l, eps, x, y)
			}
		}
		if !hasLine(rest[:x.Count], eps) || x.Count < len(rest) && hasLine(rest[:x.Count+1], eps) {
			t.Errorf("All(%v, %d): %v is not maximal", l, eps, x)
		}
		rest = rest[x.Count:]
	}
	if len(rest) > 0 {
		t.Errorf("All(%v, %d): no lines for %d samples", l, eps, len(rest))
	}
}

// hasLine says whether a line from the first sample is within eps of the others: it then is with the greatest of the
// least slopes, as this one is not too steep for any of them.
func hasLine(l []api.Sample, eps int64) bool {
	if len(l) < 2 {
		return true
	}
	steepest, _ := slopesThrough(l[0], l[1], eps)
	for _, x := range l[2:] {
		if lo, _ := slopesThrough(l[0], x, eps); lo.Cmp(steepest) > 0 {
			steepest = lo
		}
	}
	for _, x := range l[1:] {
		if _, hi := slopesThrough(l[0], x, eps); steepest.Cmp(hi) > 0 {
			return false
		}
	}
	return true
}

// Promise 14.4.

func TestFinish(t *testing.T) {
	for _, eps := range []int64{0, 3, api.MaxTolerance} {
		checkFinish(t, api.SwingState{Tolerance: eps}, nil, api.OK)
		checkFinish(t, begun(eps, sample(7, -2)), []api.Line{line(1, -2, zero)}, api.OK)
		checkFinish(t, grown(eps, 2, between(1, 2, 3, 2)), []api.Line{line(2, 3, over(1, 1))}, api.OK)
		checkFinish(t, grown(eps, 9, between(1, 4, 1, 3)), []api.Line{line(9, 3, over(1, 3))}, api.OK)
	}
	for _, s := range goodStates() {
		checkFinish(t, s, finish(s), api.OK)
	}
	for _, s := range badStates() {
		checkFinish(t, s, nil, api.ErrInvalid)
	}
}

func TestAll(t *testing.T) {
	for _, x := range []struct {
		l    []api.Sample
		eps  int64
		want []api.Line
	}{
		{nil, 0, nil},
		{nil, api.MaxTolerance, nil},
		{counted(-8), 0, []api.Line{line(1, -8, zero)}},
		{[]api.Sample{sample(greatest, least)}, 5, []api.Line{line(1, least, zero)}},
		{counted(0, 10, 20, 31), 0, []api.Line{line(3, 0, over(10, 1)), line(1, 31, zero)}},
		{counted(0, 10, 20, 31), 1, []api.Line{line(4, 0, over(10, 1))}},
		{counted(3, 1), 0, []api.Line{line(2, 3, over(-2, 1))}},
		{counted(4, 4, 4, 5), 0, []api.Line{line(3, 4, zero), line(1, 5, zero)}},
		// A segment begins with the sample that did not fit, not with the one before it.
		{counted(0, 1, 0, 1, 0), 0, []api.Line{line(2, 0, over(1, 1)), line(2, 0, over(1, 1)), line(1, 0, zero)}},
		{counted(0, 1, 0, 1, 0), 1, []api.Line{line(5, 0, zero)}},
		// The slopes are from 0 to 2 at first, and only 1 in the end.
		{counted(0, 1, 3, 2, 4), 1, []api.Line{line(5, 0, over(1, 1))}},
		{counted(0, 1, 3, 1, 4), 1, []api.Line{line(3, 0, over(1, 1)), line(2, 1, over(2, 1))}},
		{[]api.Sample{sample(0, 0), sample(3, 1), sample(6, 2), sample(9, 3), sample(11, 4)}, 0, []api.Line{line(4, 0, over(1, 3)), line(1, 4, zero)}},
		{[]api.Sample{sample(least, greatest), sample(greatest, least)}, 0, []api.Line{line(2, greatest, over(-1, 1))}},
		{[]api.Sample{sample(least, least), sample(0, 0), sample(greatest, greatest)}, 0, []api.Line{line(3, least, over(1, 1))}},
		{[]api.Sample{sample(least, least), sample(0, 1), sample(greatest, greatest)}, 0, []api.Line{
			line(2, least, api.Ratio{Num: wideOf(big.NewInt(0).SetUint64(1<<63 + 1)), Den: wideOf(big.NewInt(0).SetUint64(1 << 63))}), line(1, greatest, zero),
		}},
	} {
		if got := checkAll(t, x.l, x.eps); !slices.Equal(got, x.want) {
			t.Errorf("All(%v, %d) = %v, not %v", x.l, x.eps, got, x.want)
		}
	}
}

func TestAllErrors(t *testing.T) {
	ordered, equal, descending := counted(1, 2, 3), []api.Sample{sample(1, 0), sample(1, 5)}, []api.Sample{sample(2, 0), sample(1, 5)}
	late := append(counted(0, 0, 0, 0, 9, 0), sample(5, 0))
	for _, l := range [][]api.Sample{nil, ordered, equal, descending, late} {
		for _, eps := range []int64{-1, least, api.MaxTolerance + 1, greatest} {
			if got, e := All(l, eps); len(got) > 0 || e != api.ErrTolerance {
				t.Errorf("All(%v, %d) = %v, %v", l, eps, got, e)
			}
		}
		for _, eps := range []int64{0, 1, api.MaxTolerance} {
			want := api.ErrOrder
			if len(l) == 0 || slices.Equal(l, ordered) {
				want = api.OK
			}
			if got, e := All(l, eps); e != want || want != api.OK && len(got) > 0 {
				t.Errorf("All(%v, %d) = %v, %v, not %v", l, eps, got, e, want)
			}
		}
	}
}

// Promise 14.5.

// TestAllOfSmall takes all sequences of up to five samples with values from 0 to 4, at even distances and others.
func TestAllOfSmall(t *testing.T) {
	counts := map[int]int{}
	var extend func(l []api.Sample, gap int64)
	extend = func(l []api.Sample, gap int64) {
		for eps := range int64(3) {
			counts[len(checkAll(t, l, eps))]++
		}
		if len(l) == 5 {
			return
		}
		at := int64(-7)
		if len(l) > 0 {
			at = l[len(l)-1].T + 1 + gap*int64(len(l))
		}
		for v := range int64(5) {
			extend(append(slices.Clone(l), sample(at, v)), gap)
		}
	}
	extend(nil, 0)
	extend(nil, 1)
	if counts[0] != 6 || counts[1] < 1000 || counts[2] < 1000 || counts[3] < 1000 || counts[4] > 0 {
		t.Errorf("the numbers of lines are %v", counts)
	}
}

// TestAllAtTheEnds takes times and values at the ends of the range.
func TestAllAtTheEnds(t *testing.T) {
	times := []int64{least, least + 1, -1, 0, 1, greatest - 1, greatest}
	values := []int64{least, least + 1, 0, greatest - 1, greatest}
	random := rand.New(rand.NewSource(142))
	for set := range 1 << len(times) {
		for range 8 {
			var l []api.Sample
			for i, at := range times {
				if set>>i&1 == 1 {
					l = append(l, sample(at, values[random.Intn(len(values))]))
				}
			}
			for _, eps := range []int64{0, 1, 1 << 61, api.MaxTolerance} {
				checkAll(t, l, eps)
			}
		}
	}
}

// wandering returns n samples whose values change their direction now and then, with steps of up to 2^bits.
func wandering(random *rand.Rand, n, bits int) []api.Sample {
	l := make([]api.Sample, n)
	at, v, slope := anyNumber(random)>>2, anyNumber(random)>>2, int64(0)
	for i := range l {
		if random.Intn(12) == 0 {
			slope = random.Int63n(1<<bits) - 1<<bits/2
		}
		dt := 1 + random.Int63n(5)
		at, v = at+dt, v+slope*dt+random.Int63n(7)-3
		l[i] = sample(at, v)
	}
	return l
}

func TestAllAtRandom(t *testing.T) {
	random := rand.New(rand.NewSource(143))
	long := 0
	for range 1500 {
		l := wandering(random, random.Intn(60), 1+random.Intn(50))
		for _, x := range checkAll(t, l, random.Int63n(1<<random.Intn(40))) {
			if x.Count > 5 && x.Count < len(l) {
				long++
			}
		}
	}
	if long < 1000 {
		t.Errorf("only %d lines have many samples, but not all", long)
	}
}

func TestAllOfAnyNumbers(t *testing.T) {
	random := rand.New(rand.NewSource(144))
	for range 3000 {
		times := make([]int64, random.Intn(12))
		for i := range times {
			times[i] = anyNumber(random)
		}
		slices.Sort(times)
		var l []api.Sample
		for _, at := range slices.Compact(times) {
			l = append(l, sample(at, anyNumber(random)))
		}
		checkAll(t, l, anyNumber(random)&(api.MaxTolerance-1))
	}
}

// TestAllOfMany has more samples than a chunk or a list of numbers may have.
func TestAllOfMany(t *testing.T) {
	n := api.MaxNumbers + 5
	l := make([]api.Sample, n)
	for i := range l {
		l[i] = sample(int64(2*i), int64(3*i))
	}
	if got, e := All(l, 0); e != api.OK || !slices.Equal(got, []api.Line{line(n, 0, over(3, 2))}) {
		t.Errorf("one line: %v, %v", got, e)
	}
	for i := range l {
		l[i].V = int64(i / 2 % 2)
	}
	got, e := All(l, 0)
	if e != api.OK || len(got) != n/2+1 {
		t.Fatalf("%d lines of %d samples, %v", len(got), n, e)
	}
	for i, x := range got[:n/2] {
		if x != line(2, int64(i%2), zero) {
			t.Fatalf("line %d is %v", i, x)
		}
	}
}

func FuzzAll(f *testing.F) {
	f.Add([]byte{0, 1, 10, 1, 20, 1, 31}, int64(1))
	f.Add([]byte{255, 1, 0, 255, 255, 0, 7, 8}, int64(0))
	f.Add(binary.LittleEndian.AppendUint64(nil, full), int64(api.MaxTolerance))
	f.Fuzz(func(t *testing.T, b []byte, eps int64) {
		var l []api.Sample
		// Two bytes a sample: how far away, with some distances that are long, and a value.
		at := int64(least)
		for len(b) >= 2 && at <= greatest-1<<60 {
			at += 1 + int64(b[0]&15)<<(b[0]>>4*3)
			l = append(l, sample(at, int64(int8(b[1]))<<(b[0]&1*56)))
			b = b[2:]
		}
		if eps < 0 || eps > api.MaxTolerance {
			if got, e := All(l, eps); e != api.ErrTolerance || len(got) > 0 {
				t.Errorf("All(%v, %d) = %v, %v", l, eps, got, e)
			}
			return
		}
		checkAll(t, l, eps)
	})
}

// Rules 2 to 4.

func TestSamplesAreKept(t *testing.T) {
	backing := counted(9, 9, 0, 10, 20, 31, 7, 8, 9, 9)
	was := slices.Clone(backing)
	for end := 2; end <= 8; end++ {
		first, _ := All(backing[2:end], 0)
		second, _ := All(backing[2:end], 0)
		want := slices.Clone(second)
		spoil(first)
		if !slices.Equal(backing, was) || !slices.Equal(second, want) {
			t.Errorf("%d samples: an argument has changed, or results share memory", end-2)
		}
	}
}

func TestLinesHaveMemoryOfTheirOwn(t *testing.T) {
	s, x := grown(0, 3, between(0, 1, 0, 1)), sample(10, 7)
	_, first, _ := Step(s, x)
	_, second, _ := Step(s, x)
	rest, _ := Finish(s)
	more, _ := Finish(s)
	spoil(first)
	spoil(rest)
	want := []api.Line{line(3, 3, zero)}
	if !slices.Equal(second, want) || !slices.Equal(more, want) {
		t.Errorf("%v and %v: results share memory", second, more)
	}
}

// spoil changes each line of a list and of the memory behind it.
func spoil(l []api.Line) {
	l = l[:cap(l)]
	for i := range l {
		l[i] = line(-1, -1, api.Ratio{})
	}
}

func TestNilAndEmpty(t *testing.T) {
	for _, l := range [][]api.Sample{nil, {}, make([]api.Sample, 0, 5)} {
		if got, e := All(l, 3); len(got) != 0 || e != api.OK {
			t.Errorf("All of no samples: %v, %v", got, e)
		}
	}
}
