package stamps

import (
	"bytes"
	"math"
	"math/big"
	"math/rand"
	"slices"
	"testing"

	"tscodec/api"
	"tscodec/numbers"
)

const (
	least    = math.MinInt64
	greatest = math.MaxInt64
	top      = math.MaxUint64
)

// modulus is 2^64.
func modulus() *big.Int {
	return new(big.Int).Lsh(big.NewInt(1), 64)
}

// zigzagOf returns the number that stands for a change of a difference, as chapters 5 and 10 say.
func zigzagOf(change *big.Int) uint64 {
	v := new(big.Int).Mod(change, modulus())
	if v.Bit(63) == 1 { // the int64 is below 0
		v.Sub(v, modulus())
	}
	twice := v.Add(v, v)
	if twice.Sign() < 0 {
		twice.Neg(twice).Sub(twice, big.NewInt(1))
	}
	return twice.Uint64()
}

// unzigzagOf returns the change that a number stands for.
func unzigzagOf(code uint64) *big.Int {
	v := new(big.Int).SetUint64(code)
	if code%2 == 1 {
		v.Add(v, big.NewInt(1)).Neg(v)
	}
	return v.Quo(v, big.NewInt(2))
}

// codesFor returns the numbers of promise 10.2 for a list that increases strictly.
func codesFor(l []int64) []uint64 {
	var codes []uint64
	var before *big.Int
	for i := 1; i < len(l); i++ {
		difference := new(big.Int).Sub(big.NewInt(l[i]), big.NewInt(l[i-1]))
		if before == nil {
			codes = append(codes, new(big.Int).Sub(difference, big.NewInt(1)).Uint64())
		} else {
			codes = append(codes, zigzagOf(new(big.Int).Sub(difference, before)))
		}
		before = difference
	}
	return codes
}

// listFor returns the list that begins with first and that the numbers stand for, and whether there is one.
func listFor(first int64, codes []uint64) ([]int64, bool) {
	l := []int64{first}
	at, difference := big.NewInt(first), new(big.Int)
	for i, code := range codes {
		if i == 0 {
			difference.SetUint64(code).Add(difference, big.NewInt(1))
		} else {
			difference.Add(difference, unzigzagOf(code)).Mod(difference, modulus())
		}
		at.Add(at, difference)
		if difference.Sign() == 0 || !at.IsInt64() {
			return nil, false
		}
		l = append(l, at.Int64())
	}
	return l, true
}

// decoded says what Decode is to return, in the order of promise 10.3.
func decoded(b []byte, at int, first int64, n int) ([]int64, int, api.Errno) {
	if at < 0 || at > len(b) || n < 1 || n > api.MaxNumbers {
		return nil, 0, api.ErrRange
	}
	codes, end, e := numbers.Decode(b, at, n-1)
	if e != api.OK {
		return nil, 0, e
	}
	l, ok := listFor(first, codes)
	if !ok {
		return nil, 0, api.ErrOrder
	}
	return l, end, api.OK
}

// text returns the encoding of a list of numbers.
func text(codes ...uint64) []byte {
	b, _ := numbers.Encode(codes)
	return b
}

// ascends says the same as Increasing, with every pair of elements.
func ascends(l []int64) bool {
	for i := range l {
		for k := range i {
			if l[k] >= l[i] {
				return false
			}
		}
	}
	return true
}

// checkEncode demands the bytes of a list.
func checkEncode(t *testing.T, l []int64, want []byte) {
	t.Helper()
	if got, e := Encode(l); e != api.OK || !bytes.Equal(got, want) {
		t.Errorf("Encode(%v) = %x, %v, not %x", l, got, e, want)
	}
}

// checkRefused demands an error of Encode without bytes.
func checkRefused(t *testing.T, l []int64, want api.Errno) {
	t.Helper()
	if got, e := Encode(l); e != want || len(got) != 0 {
		t.Errorf("Encode of %d elements = %x, %v, not %v", len(l), got, e, want)
	}
}

// checkDecode demands a list, the index behind it and the error of bytes.
func checkDecode(t *testing.T, name string, b []byte, at int, first int64, n int, want []int64, wantEnd int, wantErr api.Errno) {
	t.Helper()
	l, end, e := Decode(b, at, first, n)
	if e != wantErr || end != wantEnd || !slices.Equal(l, want) {
		t.Errorf("%s: Decode(%x, %d, %d, %d) = %v, %d, %v, not %v, %d, %v", name, b, at, first, n, l, end, e, want, wantEnd, wantErr)
	}
}

// checkError demands an error with zero values beside it.
func checkError(t *testing.T, name string, b []byte, at int, first int64, n int, want api.Errno) {
	t.Helper()
	checkDecode(t, name, b, at, first, n, nil, 0, want)
}

// checkModel demands the result that promise 10.3 says.
func checkModel(t *testing.T, b []byte, at int, first int64, n int) api.Errno {
	t.Helper()
	want, end, e := decoded(b, at, first, n)
	checkDecode(t, "model", b, at, first, n, want, end, e)
	return e
}

// example is a list with its numbers and its encoding.
type example struct {
	l     []int64
	codes []uint64
	b     []byte
}

// examples are lists whose numbers and encodings are written out.
func examples() []example {
	return []example{
		{[]int64{10, 20, 30, 40}, []uint64{9, 0, 0}, []byte{0, 9, 0, 0}},
		{[]int64{least, greatest}, []uint64{top - 1}, []byte{1, 64, 254, 255, 255, 255, 255, 255, 255, 255}},
		{nil, nil, []byte{0}},
		// One element: the encoding of no numbers, whatever it is.
		{[]int64{0}, nil, []byte{0}},
		{[]int64{least}, nil, []byte{0}},
		{[]int64{greatest}, nil, []byte{0}},
		// Two elements: the difference less 1.
		{[]int64{5, 6}, []uint64{0}, []byte{0, 0}},
		{[]int64{-7, -5}, []uint64{1}, []byte{0, 1}},
		{[]int64{-1, 1}, []uint64{1}, []byte{0, 1}},
		{[]int64{1000, 1128}, []uint64{127}, []byte{0, 127}},
		{[]int64{1000, 1129}, []uint64{128}, []byte{0, 128, 1}},
		{[]int64{greatest - 1, greatest}, []uint64{0}, []byte{0, 0}},
		{[]int64{least, least + 1}, []uint64{0}, []byte{0, 0}},
		{[]int64{0, greatest}, []uint64{greatest - 1}, []byte{0, 0xfe, 255, 255, 255, 255, 255, 255, 255, 127}},
		{[]int64{-1, greatest}, []uint64{greatest}, []byte{0, 255, 255, 255, 255, 255, 255, 255, 255, 127}},
		{[]int64{-2, greatest}, []uint64{1 << 63}, []byte{1, 64, 0, 0, 0, 0, 0, 0, 0, 128}},
		// Three elements: the second difference is greater, equal or less.
		{[]int64{0, 1, 2}, []uint64{0, 0}, []byte{1, 0}},
		{[]int64{0, 1, 3}, []uint64{0, 2}, []byte{0, 0, 2}},
		{[]int64{0, 2, 3}, []uint64{1, 1}, []byte{0, 1, 1}},
		{[]int64{0, 5, 69}, []uint64{4, 118}, []byte{0, 4, 118}},
		{[]int64{0, 66, 67}, []uint64{65, 129}, []byte{0, 65, 129, 1}},
		{[]int64{least, -1, 0}, []uint64{greatest - 1, top - 4}, []byte{1, 64, 254, 255, 255, 255, 255, 255, 255, 127, 251, 255, 255, 255, 255, 255, 255, 255}},
		// The change of the differences has 65 bits and is taken modulo 2^64.
		{[]int64{-3, -2, greatest}, []uint64{0, top}, []byte{0, 0, 255, 255, 255, 255, 255, 255, 255, 255, 255, 1}},
		{[]int64{least, greatest - 1, greatest}, []uint64{top - 2, 6}, []byte{0, 253, 255, 255, 255, 255, 255, 255, 255, 255, 1, 6}},
		{[]int64{least, least + 1, greatest}, []uint64{0, 5}, []byte{0, 0, 5}},
		// Each number depends on the difference before it only.
		{[]int64{0, 10, 15, 30}, []uint64{9, 9, 20}, []byte{0, 9, 9, 20}},
		{[]int64{-100, -90, -79, -70, -60, -49}, []uint64{9, 2, 3, 2, 2}, []byte{1, 4, 0x29, 0x23, 2}},
		// Equal distances.
		{[]int64{7, 8, 9, 10, 11, 12}, []uint64{0, 0, 0, 0, 0}, []byte{1, 0}},
		{[]int64{7, 9, 11, 13, 15, 17, 19, 21, 23, 25}, []uint64{1, 0, 0, 0, 0, 0, 0, 0, 0}, []byte{1, 1, 1, 0}},
		{[]int64{0, 60, 120, 180, 240}, []uint64{59, 0, 0, 0}, []byte{0, 59, 0, 0, 0}},
	}
}

// extremes are times that are near to each other and far from each other.
func extremes() []int64 {
	return []int64{least, least + 1, least + 2, -1 << 62, -2, -1, 0, 1, 1 << 62, greatest - 2, greatest - 1, greatest}
}

// subsets calls do with every list that has some of the times, in their order.
func subsets(times []int64, do func(l []int64)) {
	for chosen := range 1 << len(times) {
		var l []int64
		for i, v := range times {
			if chosen>>i&1 == 1 {
				l = append(l, v)
			}
		}
		do(l)
	}
}

// randomList returns n random times that increase strictly, or fewer where they come to the end of the range, with differences of about as many bits as width says.
func randomList(random *rand.Rand, n, width int) []int64 {
	at := int64(random.Uint64())
	if random.Intn(3) == 0 {
		at = least + int64(random.Intn(3))
	}
	var l []int64
	step := random.Uint64()>>(64-width) | 1
	for range n {
		l = append(l, at)
		switch random.Intn(3) {
		case 0: // the same difference again
		case 1:
			step += uint64(random.Intn(3))
		default:
			step = random.Uint64()>>(64-width) | 1
		}
		if step == 0 || step > uint64(greatest)-uint64(at) {
			break
		}
		at = int64(uint64(at) + step)
	}
	return l
}

// Promise 10.1.

func TestIncreasing(t *testing.T) {
	for _, l := range [][]int64{nil, {}, {0}, {least}, {greatest}, {1, 2}, {-1, 0}, {least, greatest}, {-3, -2, 5, 6, 1000}, {least, least + 1, greatest - 1, greatest}} {
		if !Increasing(l) {
			t.Errorf("Increasing(%v) is false", l)
		}
	}
	for _, l := range [][]int64{{1, 1}, {0, 0}, {2, 1}, {0, -1}, {greatest, least}, {least, least}, {greatest, greatest}, {1, 2, 2}, {1, 1, 2}, {1, 3, 2}, {2, 1, 3}, {1, 2, 3, 4, 4}, {1, 2, 3, 4, 0}, {-1, -2}} {
		if Increasing(l) {
			t.Errorf("Increasing(%v) is true", l)
		}
	}
}

func TestOnePlaceThatDoesNotIncrease(t *testing.T) {
	for n := 2; n < 30; n++ {
		l := make([]int64, n)
		for i := range l {
			l[i] = int64(10 * i)
		}
		for i := 1; i < n; i++ {
			for _, step := range []int64{0, -1, -10, -10000} {
				bent := slices.Clone(l)
				bent[i] = l[i-1] + step
				if Increasing(bent) || !Increasing(bent[:i]) || !Increasing(bent[i:]) {
					t.Errorf("Increasing(%v) or of its parts", bent)
				}
			}
		}
	}
}

func TestIncreasingPairByPair(t *testing.T) {
	random := rand.New(rand.NewSource(101))
	yes := 0
	for range 20000 {
		l := make([]int64, random.Intn(5))
		for i := range l {
			l[i] = extremes()[random.Intn(len(extremes()))]
		}
		if Increasing(l) != ascends(l) {
			t.Errorf("Increasing(%v) = %t", l, Increasing(l))
		}
		if Increasing(l) {
			yes++
		}
	}
	if yes < 1000 || yes > 19000 {
		t.Errorf("%d lists that increase are too few or too many", yes)
	}
}

// Promise 10.2.

func TestBytesOfLists(t *testing.T) {
	for _, x := range examples() {
		checkEncode(t, x.l, x.b)
		if !bytes.Equal(text(x.codes...), x.b) || !slices.Equal(codesFor(x.l), x.codes) {
			t.Errorf("%v: the test expects %v, %v and %x", x.l, x.codes, codesFor(x.l), x.b)
		}
	}
}

func TestEncodeAtTheEnds(t *testing.T) {
	subsets(extremes(), func(l []int64) {
		checkEncode(t, l, text(codesFor(l)...))
	})
}

func TestEncodeAtRandom(t *testing.T) {
	random := rand.New(rand.NewSource(102))
	for width := 1; width <= 64; width++ {
		for n := range 60 {
			l := randomList(random, n, width)
			checkEncode(t, l, text(codesFor(l)...))
		}
	}
}

func TestFirstElementIsNotEncoded(t *testing.T) {
	want, _ := Encode([]int64{0, 1, 5, 1000, 1001})
	for _, at := range []int64{least, -1, 77, 1 << 40, greatest - 1001} {
		checkEncode(t, []int64{at, at + 1, at + 5, at + 1000, at + 1001}, want)
	}
}

// row returns n times with one distance.
func row(first int64, distance uint64, n int) []int64 {
	l := make([]int64, n)
	for i := range l {
		l[i] = int64(uint64(first) + uint64(i)*distance)
	}
	return l
}

func TestMostElements(t *testing.T) {
	bent := row(-9, 1000, api.MaxNumbers)
	bent[api.MaxNumbers-1] = greatest
	for _, l := range [][]int64{
		row(0, 1, api.MaxNumbers),
		row(least, 1<<48, api.MaxNumbers),
		row(greatest-api.MaxNumbers+1, 1, api.MaxNumbers),
		row(0, 12345, api.MaxNumbers-1),
		bent,
	} {
		b, e := Encode(l)
		if e != api.OK || !bytes.Equal(b, text(codesFor(l)...)) {
			t.Fatalf("%d elements: %d bytes, %v", len(l), len(b), e)
		}
		back, end, e := Decode(b, 0, l[0], len(l))
		if e != api.OK || end != len(b) || !slices.Equal(back, l) {
			t.Errorf("%d elements, %d, %v: the list is not given back", len(back), end, e)
		}
	}
}

func TestListsThatAreRefused(t *testing.T) {
	for _, n := range []int{api.MaxNumbers + 1, api.MaxNumbers + 2, 2 * api.MaxNumbers} {
		checkRefused(t, row(0, 1, n), api.ErrLimit)
		checkRefused(t, make([]int64, n), api.ErrLimit) // and it does not increase
	}
	checkRefused(t, make([]int64, api.MaxNumbers), api.ErrOrder)
	bent := row(0, 1, api.MaxNumbers)
	bent[api.MaxNumbers-1]--
	checkRefused(t, bent, api.ErrOrder)
	for _, l := range [][]int64{{1, 1}, {2, 1}, {1, 2, 2}, {1, 1, 2}, {greatest, least}, {least, least}, {0, greatest, least}, {1, 2, 3, 2, 9}} {
		checkRefused(t, l, api.ErrOrder)
	}
}

func TestOrderOfRandomLists(t *testing.T) {
	random := rand.New(rand.NewSource(103))
	for range 5000 {
		l := make([]int64, 2+random.Intn(3))
		for i := range l {
			l[i] = extremes()[random.Intn(len(extremes()))]
		}
		if ascends(l) {
			checkEncode(t, l, text(codesFor(l)...))
		} else {
			checkRefused(t, l, api.ErrOrder)
		}
	}
}

// Promise 10.3.

func TestDecode(t *testing.T) {
	for _, x := range examples() {
		if len(x.l) == 0 {
			continue // Decode reads lists with a first element
		}
		for _, before := range [][]byte{nil, {0}, {1, 1}, {255, 0x80, 2}} {
			for _, after := range [][]byte{nil, {0}, {1}, {127}, {128}, {255, 255}} {
				b := slices.Concat(before, x.b, after)
				at := len(before)
				checkDecode(t, "example", b, at, x.l[0], len(x.l), x.l, at+len(x.b), api.OK)
			}
		}
	}
}

func TestArgumentsOutOfRange(t *testing.T) {
	for _, b := range [][]byte{nil, {}, {0}, {2}, {0, 1, 2}, {1, 0}, text(top, 1), make([]byte, 0, 9)} {
		for _, first := range []int64{least, 0, greatest} {
			for _, at := range []int{math.MinInt, -1000, -1, len(b) + 1, len(b) + 1000, math.MaxInt} {
				for _, n := range []int{math.MinInt, -1, 0, 1, 2, api.MaxNumbers, api.MaxNumbers + 1, math.MaxInt} {
					checkError(t, "index", b, at, first, n, api.ErrRange)
				}
			}
			for at := range len(b) + 1 {
				for _, n := range []int{math.MinInt, -api.MaxNumbers, -1, 0, api.MaxNumbers + 1, api.MaxNumbers + 2, math.MaxInt} {
					checkError(t, "number", b, at, first, n, api.ErrRange)
				}
			}
			for _, n := range []int{1, 2, api.MaxNumbers} {
				checkError(t, "no byte", b, len(b), first, n, api.ErrTruncated)
			}
		}
	}
	// What stands behind the length is not read.
	memory := []byte{0, 1, 0, 5}
	checkError(t, "memory behind", memory[:0], 0, 0, 1, api.ErrTruncated)
	checkError(t, "memory behind", memory[:2], 0, 0, 3, api.ErrTruncated)
	checkError(t, "memory behind", memory[:2], 2, 0, 1, api.ErrTruncated)
}

func TestErrorsOfNumbers(t *testing.T) {
	for _, x := range []struct {
		name string
		b    []byte
		n    int
		want api.Errno
	}{
		{"another form", []byte{2}, 1, api.ErrForm},
		{"another form", []byte{255, 1, 1}, 3, api.ErrForm},
		{"no number", []byte{0}, 2, api.ErrTruncated},
		{"a number is missing", []byte{0, 5}, 3, api.ErrTruncated},
		{"a number is cut", []byte{0, 0x80}, 2, api.ErrTruncated},
		{"a group 0", []byte{0, 0x80, 0}, 2, api.ErrForm},
		{"no width", []byte{1}, 2, api.ErrTruncated},
		{"a width of 65", []byte{1, 65, 0}, 2, api.ErrForm},
		{"too few bytes", []byte{1, 5, 0xff}, 4, api.ErrTruncated},
		{"one number without bits", []byte{1, 0}, 2, api.ErrForm},
		{"no numbers in packed form", []byte{1, 0}, 1, api.ErrForm},
		{"packed is shorter", []byte{0, 1, 1, 1, 1, 1}, 6, api.ErrForm},
		{"the most numbers", []byte{0, 1, 2, 3}, api.MaxNumbers, api.ErrTruncated},
		// These contain a difference of 0 too, which is the later error.
		{"a difference of 0, then the end", []byte{0, 0, 1}, 4, api.ErrTruncated},
		{"a difference of 0, then a group 0", []byte{0, 0, 1, 0x80, 0}, 4, api.ErrForm},
		{"a difference of 0 in the wrong form", []byte{1, 1, 2}, 3, api.ErrForm},
		{"a difference of 2^64 in the wrong form", slices.Concat([]byte{0}, slices.Repeat([]byte{255}, 9), []byte{1}), 2, api.ErrForm},
	} {
		for _, first := range []int64{least, 0, greatest} {
			checkError(t, x.name, x.b, 0, first, x.n, x.want)
			checkError(t, x.name, slices.Concat([]byte{1, 1}, x.b), 2, first, x.n, x.want)
		}
	}
}

func TestErrorsOfOrder(t *testing.T) {
	for _, x := range []struct {
		name  string
		codes []uint64
		first int64
	}{
		{"a first difference of 2^64", []uint64{top}, least},
		{"a first difference of 2^64", []uint64{top}, 0},
		{"a first difference of 2^64", []uint64{top, 0}, greatest},
		{"a first difference of 2^64, then 1", []uint64{top, 2}, least},
		{"one too far", []uint64{top - 1}, least + 1},
		{"one too far", []uint64{0}, greatest},
		{"one too far", []uint64{1}, greatest - 1},
		{"one too far", []uint64{greatest}, 0},
		{"one too far", []uint64{1 << 63}, -1},
		{"far too far", []uint64{top - 1}, greatest},
		{"far too far", []uint64{1 << 62}, 1<<62 + 1<<61},
		{"a second difference of 0", []uint64{9, 19}, 0},
		{"a second difference of 0", []uint64{0, 1}, least},
		{"a second difference of 0", []uint64{top - 1, 2}, least},
		{"a second difference of 0, then 1", []uint64{9, 19, 2}, 0},
		{"a third difference of 0", []uint64{9, 0, 19}, 0},
		{"a second difference below 0", []uint64{0, 3}, 0},
		{"a second difference below 0", []uint64{0, 3}, least},
		{"a second difference below 0", []uint64{0, 3}, greatest - 1},
		{"a second difference below 0 by far", []uint64{9, 1001}, 500},
		{"the third element too far", []uint64{0, 0}, greatest - 1},
		{"the third element too far by one", []uint64{4, 2}, greatest - 10},
		{"the second difference one too far", []uint64{1, 7}, least},
		{"the last of many too far", []uint64{0, 0, 0, 0, 0, 0, 0}, greatest - 6},
		{"the last of many too far", []uint64{99, 0, 0, 0, 2}, greatest - 500},
	} {
		n := len(x.codes) + 1
		b := text(x.codes...)
		checkError(t, x.name, b, 0, x.first, n, api.ErrOrder)
		checkError(t, x.name, slices.Concat([]byte{2}, b, []byte{0}), 1, x.first, n, api.ErrOrder)
		if e := checkModel(t, b, 0, x.first, n); e != api.ErrOrder {
			t.Errorf("%s: the test expects %v", x.name, e)
		}
	}
}

func TestLastElementThatFits(t *testing.T) {
	for _, x := range []struct {
		codes []uint64
		first int64
		want  []int64
	}{
		{nil, greatest, []int64{greatest}},
		{[]uint64{0}, greatest - 1, []int64{greatest - 1, greatest}},
		{[]uint64{top - 1}, least, []int64{least, greatest}},
		{[]uint64{greatest - 1}, 0, []int64{0, greatest}},
		{[]uint64{0, 5}, least, []int64{least, least + 1, greatest}},
		{[]uint64{1, 9}, least, []int64{least, least + 2, greatest}},
		{[]uint64{0, 0}, greatest - 2, []int64{greatest - 2, greatest - 1, greatest}},
		{[]uint64{4, 0}, greatest - 10, []int64{greatest - 10, greatest - 5, greatest}},
		{[]uint64{9, 17}, 0, []int64{0, 10, 11}},
	} {
		b := text(x.codes...)
		checkDecode(t, "fits", b, 0, x.first, len(x.want), x.want, len(b), api.OK)
	}
}

func TestCodesAtTheEnds(t *testing.T) {
	// All lists of numbers near the ends of their ranges, behind first elements that are near the ends of theirs.
	values := []uint64{0, 1, 2, 3, 5, 6, 7, 1<<63 - 2, 1<<63 - 1, 1 << 63, 1<<63 + 1, top - 4, top - 3, top - 2, top - 1, top}
	counts := map[api.Errno]int{}
	for _, first := range extremes() {
		for _, a := range values {
			counts[checkModel(t, text(a), 0, first, 2)]++
			for _, b := range values {
				counts[checkModel(t, text(a, b), 0, first, 3)]++
				for _, c := range values {
					counts[checkModel(t, text(a, b, c), 0, first, 4)]++
				}
			}
		}
	}
	if len(counts) != 2 || counts[api.OK] < 1000 || counts[api.ErrOrder] < 1000 {
		t.Errorf("too few of a kind: %v", counts)
	}
}

func TestShortByteStrings(t *testing.T) {
	for _, first := range []int64{least, 0, greatest - 40, greatest} {
		for n := range 5 {
			checkModel(t, nil, 0, first, n)
			for i := range 256 {
				checkModel(t, []byte{byte(i)}, 0, first, n)
				for k := range 256 {
					checkModel(t, []byte{byte(i), byte(k)}, 0, first, n)
				}
			}
		}
		for i := range 256 {
			for k := range 256 {
				checkModel(t, []byte{0, byte(i), byte(k)}, 0, first, 3)
				checkModel(t, []byte{1, byte(i), byte(k)}, 0, first, 3)
			}
		}
	}
}

func TestBentEncodings(t *testing.T) {
	random := rand.New(rand.NewSource(104))
	counts := map[api.Errno]int{}
	for range 30000 {
		l := randomList(random, 1+random.Intn(12), 1+random.Intn(64))
		b, _ := Encode(l)
		b = slices.Concat(b, []byte{byte(random.Intn(256)), 0, 1})
		b[random.Intn(len(b))] ^= 1 << random.Intn(8)
		counts[checkModel(t, b, 0, l[0], len(l))]++
		checkModel(t, b, random.Intn(len(b)), l[0], random.Intn(4))
		checkModel(t, b, 0, l[0], len(l)+random.Intn(5)-2)
		checkModel(t, b, 0, int64(random.Uint64()), len(l))
	}
	for _, e := range []api.Errno{api.OK, api.ErrTruncated, api.ErrForm, api.ErrOrder} {
		if counts[e] < 100 {
			t.Errorf("too few of %v: %v", e, counts)
		}
	}
}

func TestBeginnings(t *testing.T) {
	random := rand.New(rand.NewSource(105))
	for range 2000 {
		l := randomList(random, 1+random.Intn(20), 1+random.Intn(64))
		b, _ := Encode(l)
		for end := range b {
			checkError(t, "a beginning", b[:end], 0, l[0], len(l), api.ErrTruncated)
		}
	}
}

// Promise 10.4.

func TestThereAndBack(t *testing.T) {
	random := rand.New(rand.NewSource(106))
	for range 5000 {
		l := randomList(random, 1+random.Intn(60), 1+random.Intn(64))
		b, e := Encode(l)
		if e != api.OK {
			t.Fatalf("Encode(%v): %v", l, e)
		}
		checkDecode(t, "there and back", b, 0, l[0], len(l), l, len(b), api.OK)
	}
	subsets(extremes(), func(l []int64) {
		if b, _ := Encode(l); len(l) > 0 {
			checkDecode(t, "there and back", b, 0, l[0], len(l), l, len(b), api.OK)
		}
	})
}

func TestOneEncodingForEachList(t *testing.T) {
	// Lists with the same first element and as many elements have other bytes.
	type kind struct {
		first int64
		n     int
		text  string
	}
	seen := map[kind]bool{}
	subsets(extremes(), func(l []int64) {
		b, e := Encode(l)
		if len(l) == 0 {
			return
		}
		k := kind{l[0], len(l), string(b)}
		if e != api.OK || seen[k] {
			t.Errorf("Encode(%v) = %x, %v: the encoding of another list", l, b, e)
		}
		seen[k] = true
	})
}

func TestOneListForEachEncoding(t *testing.T) {
	// What is decoded has increasing elements, and its encoding is the bytes that were read.
	read := 0
	for _, first := range []int64{least, 0, greatest - 40} {
		for i := range 1 << 16 {
			for form := range 2 {
				b := []byte{byte(form), byte(i), byte(i >> 8)}
				for n := 1; n < 6; n++ {
					l, end, e := Decode(b, 0, first, n)
					if e != api.OK {
						continue
					}
					read++
					again, e := Encode(l)
					if e != api.OK || !bytes.Equal(again, b[:end]) || !ascends(l) || l[0] != first || len(l) != n {
						t.Errorf("Decode(%x, 0, %d, %d) = %v, which has the encoding %x", b, first, n, l, again)
					}
				}
			}
		}
	}
	if read < 100000 {
		t.Errorf("%d lists are too few", read)
	}
}

func TestEqualDistances(t *testing.T) {
	for _, distance := range []uint64{1, 2, 60, 127, 128, 129, 1000, 1 << 20, 86400e9, 1 << 47, 1 << 60, 1 << 63, top} {
		for _, n := range []int{1, 2, 3, 4, 10, 100, 1000, api.MaxNumbers} {
			if uint64(n-1) > top/distance {
				continue
			}
			l := row(least, distance, n)
			b, e := Encode(l)
			most := n + 9 // the first distance has at most 10 bytes, and the byte of the form precedes it
			if distance <= 128 {
				most = n
			}
			if e != api.OK || len(b) > most {
				t.Errorf("%d times at a distance of %d: %d bytes, %v", n, distance, len(b), e)
			}
			checkDecode(t, "equal distances", b, 0, l[0], n, l, len(b), api.OK)
		}
	}
}

func TestListsInARow(t *testing.T) {
	random := rand.New(rand.NewSource(107))
	var lists [][]int64
	var b []byte
	for range 300 {
		l := randomList(random, 1+random.Intn(9), 1+random.Intn(64))
		one, _ := Encode(l)
		lists = append(lists, l)
		b = append(b, one...)
	}
	at := 0
	for _, want := range lists {
		l, end, e := Decode(b, at, want[0], len(want))
		if e != api.OK || !slices.Equal(l, want) {
			t.Fatalf("at %d: %v, %v, not %v", at, l, e, want)
		}
		at = end
	}
	if at != len(b) {
		t.Errorf("reading ends at %d of %d bytes", at, len(b))
	}
}

func FuzzDecode(f *testing.F) {
	f.Add([]byte{0}, 0, int64(greatest), 1)
	f.Add([]byte{0, 9, 0, 0}, 0, int64(10), 4)
	f.Add(text(top-1), 0, int64(least), 2)
	f.Add(text(1, 7), 0, int64(least), 3)
	f.Add([]byte{9, 0, 9, 19}, 1, int64(0), 3)
	f.Add([]byte{1, 0}, -1, int64(0), api.MaxNumbers)
	f.Fuzz(func(t *testing.T, b []byte, at int, first int64, n int) {
		l, end, e := Decode(b, at, first, n)
		want, wantEnd, wantErr := decoded(b, at, first, n)
		if e != wantErr || end != wantEnd || !slices.Equal(l, want) {
			t.Fatalf("%v, %d, %v, not %v, %d, %v", l, end, e, want, wantEnd, wantErr)
		}
		if e != api.OK {
			return
		}
		if again, e := Encode(l); e != api.OK || !bytes.Equal(again, b[at:end]) {
			t.Fatalf("%x, %v, not %x", again, e, b[at:end])
		}
	})
}

// Rules 2 to 4.

func TestListsAreKept(t *testing.T) {
	for _, x := range examples() {
		backing := slices.Concat([]int64{7, least}, x.l, []int64{8, 9, greatest})
		was := slices.Clone(backing)
		within := backing[2 : 2+len(x.l)]
		first, _ := Encode(within)
		second, _ := Encode(within)
		for i := range first[:cap(first)] {
			first[:cap(first)][i] ^= 255
		}
		if !Increasing(within) || !slices.Equal(backing, was) || !bytes.Equal(second, x.b) {
			t.Errorf("%v: a function changes its argument or results share memory", x.l)
		}
	}
}

func TestBytesAreKept(t *testing.T) {
	for _, x := range examples() {
		if len(x.l) == 0 {
			continue
		}
		backing := slices.Concat([]byte{255, 1}, x.b, []byte{255, 0, 255})
		was := slices.Clone(backing)
		b := backing[:2+len(x.b)]
		first, _, e := Decode(b, 2, x.l[0], len(x.l))
		second, _, again := Decode(b, 2, x.l[0], len(x.l))
		if e != api.OK || again != api.OK {
			t.Fatalf("%v: %v, %v", x.l, e, again)
		}
		for i := range first[:cap(first)] {
			first[:cap(first)][i] ^= -1
		}
		if !bytes.Equal(backing, was) || !slices.Equal(second, x.l) {
			t.Errorf("%v: Decode changes its argument or its results share memory", x.l)
		}
	}
}

func TestNilAndEmpty(t *testing.T) {
	if !Increasing(nil) || !Increasing([]int64{}) {
		t.Error("a list without elements does not increase")
	}
	checkEncode(t, nil, []byte{0})
	checkEncode(t, []int64{}, []byte{0})
	for _, n := range []int{-1, 0, 1, 2} {
		for _, at := range []int{-1, 0, 1} {
			first, end, e := Decode(nil, at, 5, n)
			second, other, again := Decode([]byte{}, at, 5, n)
			if e != again || end != other || len(first) != 0 || len(second) != 0 {
				t.Errorf("no bytes at %d to %d elements: %v, %d, %v and %v, %d, %v", at, n, first, end, e, second, other, again)
			}
		}
	}
}
