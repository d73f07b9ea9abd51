package residual

import (
	"bytes"
	"math"
	"math/big"
	"math/rand"
	"slices"
	"testing"

	"tscodec/api"
	"tscodec/numbers"
)

const (
	least    = math.MinInt64
	greatest = math.MaxInt64
	top      = math.MaxUint64
)

// wrapped returns the int64 that is v modulo 2^64.
func wrapped(v *big.Int) int64 {
	modulus := new(big.Int).Lsh(big.NewInt(1), 64)
	rest := new(big.Int).Mod(v, modulus)
	if !rest.IsInt64() {
		rest.Sub(rest, modulus)
	}
	return rest.Int64()
}

// zigzagOf returns the number that stands for v, as chapter 5 says.
func zigzagOf(v int64) uint64 {
	twice := new(big.Int).Mul(big.NewInt(v), big.NewInt(2))
	if v < 0 {
		twice.Neg(twice).Sub(twice, big.NewInt(1))
	}
	return twice.Uint64()
}

// unzigzagOf returns the number that a code stands for.
func unzigzagOf(code uint64) int64 {
	if code%2 == 1 {
		return -int64(code/2) - 1
	}
	return int64(code / 2)
}

// before returns what the elements before the index i of l add to the element of its differences, taken as often as order says: these are l[i] - l[i-1], and l[i] - 2 l[i-1] + l[i-2], with 0 for elements before the first one.
func before(l []int64, i, order int) *big.Int {
	sum := new(big.Int)
	for k, factor := range [][]int64{{}, {-1}, {-2, 1}}[order] {
		if i > k {
			sum.Add(sum, new(big.Int).Mul(big.NewInt(factor), big.NewInt(l[i-1-k])))
		}
	}
	return sum
}

// codesFor returns the residuals of promise 11.1.
func codesFor(l []int64, order int) []uint64 {
	codes := make([]uint64, len(l))
	for i, v := range l {
		codes[i] = zigzagOf(wrapped(new(big.Int).Add(big.NewInt(v), before(l, i, order))))
	}
	return codes
}

// listFor returns the list with the residuals of an order.
func listFor(codes []uint64, order int) []int64 {
	l := make([]int64, len(codes))
	for i, code := range codes {
		l[i] = wrapped(new(big.Int).Sub(big.NewInt(unzigzagOf(code)), before(l, i, order)))
	}
	return l
}

// text returns the bytes of an order and a list of numbers.
func text(order int, codes ...uint64) []byte {
	b, _ := numbers.Encode(codes)
	return slices.Concat([]byte{byte(order)}, b)
}

// texts returns the bytes of a list with each of the three orders.
func texts(l []int64) [3][]byte {
	return [3][]byte{text(0, codesFor(l, 0)...), text(1, codesFor(l, 1)...), text(2, codesFor(l, 2)...)}
}

// encoding returns what Encode is to return for a list that is not too long.
func encoding(l []int64) []byte {
	all := texts(l)
	return slices.MinFunc(all[:], func(a, b []byte) int { return len(a) - len(b) }) // the first one of several
}

// decoded says what Decode is to return, in the order of promise 11.3.
func decoded(b []byte, at, n int) ([]int64, int, api.Errno) {
	if at < 0 || at > len(b) || n < 0 || n > api.MaxNumbers {
		return nil, 0, api.ErrRange
	}
	if len(b[at:]) == 0 {
		return nil, 0, api.ErrTruncated
	}
	if b[at] > 2 {
		return nil, 0, api.ErrForm
	}
	codes, end, e := numbers.Decode(b, at+1, n)
	if e != api.OK {
		return nil, 0, e
	}
	l := listFor(codes, int(b[at]))
	if !bytes.Equal(encoding(l), b[at:end]) {
		return nil, 0, api.ErrForm
	}
	return l, end, api.OK
}

// checkResiduals demands the residuals of a list.
func checkResiduals(t *testing.T, l []int64, order int, want []uint64) {
	t.Helper()
	if got, ok := Residuals(l, order); !ok || !slices.Equal(got, want) {
		t.Errorf("Residuals(%v, %d) = %v, %t, not %v", l, order, got, ok, want)
	}
}

// checkEncode demands the bytes of a list.
func checkEncode(t *testing.T, l []int64, want []byte) {
	t.Helper()
	if got, e := Encode(l); e != api.OK || !bytes.Equal(got, want) {
		t.Errorf("Encode(%v) = %x, %v, not %x", l, got, e, want)
	}
}

// checkDecode demands a list, the index behind it and the error of bytes.
func checkDecode(t *testing.T, name string, b []byte, at, n int, want []int64, wantEnd int, wantErr api.Errno) {
	t.Helper()
	l, end, e := Decode(b, at, n)
	if e != wantErr || end != wantEnd || !slices.Equal(l, want) {
		t.Errorf("%s: Decode(%x, %d, %d) = %v, %d, %v, not %v, %d, %v", name, b, at, n, l, end, e, want, wantEnd, wantErr)
	}
}

// checkError demands an error with zero values beside it.
func checkError(t *testing.T, name string, b []byte, at, n int, want api.Errno) {
	t.Helper()
	checkDecode(t, name, b, at, n, nil, 0, want)
}

// checkModel demands the result that promise 11.3 says.
func checkModel(t *testing.T, b []byte, at, n int) api.Errno {
	t.Helper()
	want, end, e := decoded(b, at, n)
	checkDecode(t, "model", b, at, n, want, end, e)
	return e
}

// example is a list with the residuals of each order and its encoding.
type example struct {
	l     []int64
	codes [3][]uint64
	b     []byte
}

// nines returns bytes with nine times one of them within.
func nines(first []byte, one byte, last ...byte) []byte {
	return slices.Concat(first, slices.Repeat([]byte{one}, 9), last)
}

// examples are lists whose residuals and encodings are written out.
func examples() []example {
	return []example{
		{nil, [3][]uint64{}, []byte{0, 0}},
		{[]int64{1000, 1001, 1002, 1003, 1004, 1005, 1006, 1007, 1008, 1009}, [3][]uint64{
			{2000, 2002, 2004, 2006, 2008, 2010, 2012, 2014, 2016, 2018},
			{2000, 2, 2, 2, 2, 2, 2, 2, 2, 2},
			{2000, 1997, 0, 0, 0, 0, 0, 0, 0, 0},
		}, nines([]byte{1, 0, 0xd0, 0x0f}, 2)},
		// One element has the same residual in each order.
		{[]int64{0}, [3][]uint64{{0}, {0}, {0}}, []byte{0, 0, 0}},
		{[]int64{-1}, [3][]uint64{{1}, {1}, {1}}, []byte{0, 0, 1}},
		{[]int64{1}, [3][]uint64{{2}, {2}, {2}}, []byte{0, 0, 2}},
		{[]int64{-64}, [3][]uint64{{127}, {127}, {127}}, []byte{0, 0, 127}},
		{[]int64{64}, [3][]uint64{{128}, {128}, {128}}, []byte{0, 0, 128, 1}},
		{[]int64{least}, [3][]uint64{{top}, {top}, {top}}, []byte{0, 1, 64, 255, 255, 255, 255, 255, 255, 255, 255}},
		{[]int64{greatest}, [3][]uint64{{top - 1}, {top - 1}, {top - 1}}, []byte{0, 1, 64, 254, 255, 255, 255, 255, 255, 255, 255}},
		// All orders have the same number of bytes.
		{[]int64{7, 7}, [3][]uint64{{14, 14}, {14, 0}, {14, 13}}, []byte{0, 0, 14, 14}},
		{[]int64{7, 7, 7, 7, 7, 7, 7, 7}, [3][]uint64{
			{14, 14, 14, 14, 14, 14, 14, 14},
			{14, 0, 0, 0, 0, 0, 0, 0},
			{14, 13, 0, 0, 0, 0, 0, 0},
		}, []byte{0, 1, 4, 0xee, 0xee, 0xee, 0xee}},
		{[]int64{0, 0, 0}, [3][]uint64{{0, 0, 0}, {0, 0, 0}, {0, 0, 0}}, []byte{0, 1, 0}},
		// Order 0 is the shortest one, or as short as the last one only.
		{[]int64{5, -5, 5, -5, 5, -5}, [3][]uint64{
			{10, 9, 10, 9, 10, 9},
			{10, 19, 20, 19, 20, 19},
			{10, 29, 40, 39, 40, 39},
		}, []byte{0, 1, 4, 0x9a, 0x9a, 0x9a}},
		{[]int64{least, 0}, [3][]uint64{{top, 0}, {top, top}, {top, 0}}, nines([]byte{0, 0}, 255, 1, 0)},
		// Order 1 is the shortest one, or as short as the last one only.
		{[]int64{1000, 1000}, [3][]uint64{{2000, 2000}, {2000, 0}, {2000, 1999}}, []byte{1, 0, 0xd0, 0x0f, 0}},
		{[]int64{0, 50, 100, 150}, [3][]uint64{{0, 100, 200, 300}, {0, 100, 100, 100}, {0, 100, 0, 0}}, []byte{1, 0, 0, 100, 100, 100}},
		// Order 2 is the shortest one.
		{[]int64{0, 1000, 2000, 3000}, [3][]uint64{{0, 2000, 4000, 6000}, {0, 2000, 2000, 2000}, {0, 2000, 0, 0}}, []byte{2, 0, 0, 0xd0, 0x0f, 0, 0}},
		{[]int64{0, -1000, -2000, -3000}, [3][]uint64{{0, 1999, 3999, 5999}, {0, 1999, 1999, 1999}, {0, 1999, 0, 0}}, []byte{2, 0, 0, 0xcf, 0x0f, 0, 0}},
		{[]int64{0, 1, 4, 9, 16, 25, 36, 49}, [3][]uint64{
			{0, 2, 8, 18, 32, 50, 72, 98},
			{0, 2, 6, 10, 14, 18, 22, 26},
			{0, 2, 4, 4, 4, 4, 4, 4},
		}, []byte{2, 1, 3, 0x10, 0x49, 0x92}},
		// The differences are taken modulo 2^64.
		{[]int64{least, greatest, least}, [3][]uint64{{top, top - 1, top}, {top, 1, 2}, {top, top - 1, 4}}, nines([]byte{1, 0}, 255, 1, 1, 2)},
		{[]int64{greatest, least, greatest}, [3][]uint64{{top - 1, top, top - 1}, {top - 1, 2, 1}, {top - 1, top - 4, 3}}, []byte{1, 0, 254, 255, 255, 255, 255, 255, 255, 255, 255, 1, 2, 1}},
		{[]int64{0, 1 << 62, least, -1 << 62}, [3][]uint64{
			{0, 1 << 63, top, 1<<63 - 1},
			{0, 1 << 63, 1 << 63, 1 << 63},
			{0, 1 << 63, 0, 0},
		}, nines([]byte{2, 0, 0}, 128, 1, 0, 0)},
	}
}

// extremes are values that are near to each other and far from each other.
func extremes() []int64 {
	return []int64{least, least + 1, -1 << 62, -1000, -2, -1, 0, 1, 64, 1 << 62, greatest - 1, greatest}
}

// someLists calls do with every list of at most n extremes.
func someLists(n int, do func(l []int64)) {
	var extend func(l []int64)
	extend = func(l []int64) {
		do(slices.Clone(l))
		if len(l) == n {
			return
		}
		for _, v := range extremes() {
			extend(append(slices.Clone(l), v))
		}
	}
	extend(nil)
}

// randomList returns n values: sums of sums of random numbers of at most as many bits as width says, so that each of the orders is the shortest one at times.
func randomList(random *rand.Rand, n, width int) []int64 {
	sums := random.Intn(3)
	slope := int64(random.Uint64()) >> random.Intn(64)
	at := int64(random.Uint64()) >> random.Intn(64)
	l := make([]int64, n)
	for i := range l {
		noise := int64(random.Uint64()) >> (64 - width)
		switch sums {
		case 0:
			l[i] = noise
		case 1:
			at += noise
			l[i] = at
		default:
			slope += noise
			at += slope
			l[i] = at
		}
	}
	return l
}

// Promise 11.1.

func TestResiduals(t *testing.T) {
	for _, x := range examples() {
		for order, codes := range x.codes {
			checkResiduals(t, x.l, order, codes)
			if want := codesFor(x.l, order); !slices.Equal(want, codes) {
				t.Errorf("%v, order %d: the test expects %v and %v", x.l, order, codes, want)
			}
		}
	}
}

func TestResidualsAtTheEnds(t *testing.T) {
	someLists(4, func(l []int64) {
		for order := range 3 {
			checkResiduals(t, l, order, codesFor(l, order))
		}
	})
}

func TestResidualsAtRandom(t *testing.T) {
	random := rand.New(rand.NewSource(111))
	for width := range 65 {
		for n := range 40 {
			l := randomList(random, n, width)
			for order := range 3 {
				checkResiduals(t, l, order, codesFor(l, order))
			}
		}
	}
}

func TestOtherOrders(t *testing.T) {
	for _, l := range [][]int64{nil, {}, {0}, {1, 2, 3}, make([]int64, 1000)} {
		for _, order := range []int{math.MinInt, -1000, -256, -3, -2, -1, 3, 4, 255, 256, 257, 1000, 1 << 32, 1<<32 + 1, math.MaxInt - 1, math.MaxInt} {
			if codes, ok := Residuals(l, order); ok || len(codes) != 0 {
				t.Errorf("Residuals(%v, %d) = %v, %t", l, order, codes, ok)
			}
		}
	}
}

func TestResidualsHaveNoLimit(t *testing.T) {
	random := rand.New(rand.NewSource(112))
	l := randomList(random, api.MaxNumbers+77, 60)
	for order := range 3 {
		codes, ok := Residuals(l, order)
		if !ok || !slices.Equal(codes, codesFor(l, order)) {
			t.Errorf("order %d: %d residuals, %t", order, len(codes), ok)
		}
	}
}

// Promise 11.2.

func TestBytesOfLists(t *testing.T) {
	for _, x := range examples() {
		checkEncode(t, x.l, x.b)
		if want := encoding(x.l); !bytes.Equal(want, x.b) {
			t.Errorf("%v: the test expects %x and %x", x.l, x.b, want)
		}
	}
}

func TestEncodeAtTheEnds(t *testing.T) {
	someLists(3, func(l []int64) {
		checkEncode(t, l, encoding(l))
	})
}

func TestShortestOrder(t *testing.T) {
	// Each order is the shortest one alone, and each pair and all of them have the same number of bytes.
	random := rand.New(rand.NewSource(113))
	counts := map[[3]bool]int{}
	check := func(l []int64) {
		want := encoding(l)
		checkEncode(t, l, want)
		var shortest [3]bool
		for order, b := range texts(l) {
			shortest[order] = len(b) == len(want)
		}
		counts[shortest]++
	}
	for range 20000 {
		check(randomList(random, 1+random.Intn(20), random.Intn(65)))
	}
	for range 2000 {
		// Once, the first element changes the second one in its upper bits; twice, modulo 2^64, in its lower ones only. So the orders 0 and 2 are the short ones.
		check([]int64{least + int64(random.Intn(64)), int64(random.Intn(64))})
	}
	if len(counts) != 7 {
		t.Errorf("some case is missing: %v", counts)
	}
	for shortest, count := range counts {
		if count < 20 {
			t.Errorf("%d lists with %v are too few", count, shortest)
		}
	}
}

// longLists returns n elements for each of the orders, so that this order is the shortest one.
func longLists(n int) [3][]int64 {
	random := rand.New(rand.NewSource(114))
	var lists [3][]int64
	sum, slope := int64(0), int64(0)
	for range n {
		noise := int64(random.Uint64()) >> 44
		sum += noise
		lists[0] = append(lists[0], noise)
		lists[1] = append(lists[1], sum)
		slope += sum
		lists[2] = append(lists[2], slope)
	}
	return lists
}

func TestMostNumbers(t *testing.T) {
	for _, n := range []int{api.MaxNumbers - 1, api.MaxNumbers} {
		for order, l := range longLists(n) {
			b, e := Encode(l)
			if e != api.OK || !bytes.Equal(b, encoding(l)) || b[0] != byte(order) {
				t.Fatalf("order %d: %d bytes, %v", order, len(b), e)
			}
			back, end, e := Decode(b, 0, n)
			if e != api.OK || end != len(b) || !slices.Equal(back, l) {
				t.Errorf("order %d: %d elements, %d, %v: the list is not given back", order, len(back), end, e)
			}
		}
	}
}

func TestTooManyNumbers(t *testing.T) {
	for _, n := range []int{api.MaxNumbers + 1, api.MaxNumbers + 2, 2 * api.MaxNumbers} {
		for _, l := range [][]int64{make([]int64, n), slices.Repeat([]int64{least}, n), slices.Repeat([]int64{5}, n)} {
			if b, e := Encode(l); e != api.ErrLimit || len(b) != 0 {
				t.Errorf("%d elements: %d bytes, %v", n, len(b), e)
			}
		}
	}
}

// Promise 11.3.

func TestDecode(t *testing.T) {
	for _, x := range examples() {
		for _, front := range [][]byte{nil, {0}, {1, 1}, {255, 0x80, 2}} {
			for _, after := range [][]byte{nil, {0}, {1}, {127}, {128}, {255, 255}} {
				b := slices.Concat(front, x.b, after)
				at := len(front)
				checkDecode(t, "example", b, at, len(x.l), x.l, at+len(x.b), api.OK)
			}
		}
	}
}

func TestArgumentsOutOfRange(t *testing.T) {
	for _, b := range [][]byte{nil, {}, {0}, {3}, {0, 0}, {0, 0, 1, 2}, {1, 1, 0}, {255, 255}, make([]byte, 0, 9)} {
		for _, at := range []int{math.MinInt, -1000, -1, len(b) + 1, len(b) + 1000, math.MaxInt - 1, math.MaxInt} {
			for _, n := range []int{math.MinInt, -1, 0, 1, 2, api.MaxNumbers, api.MaxNumbers + 1, math.MaxInt} {
				checkError(t, "index", b, at, n, api.ErrRange)
			}
		}
		for at := range len(b) + 1 {
			for _, n := range []int{math.MinInt, -api.MaxNumbers, -1, api.MaxNumbers + 1, api.MaxNumbers + 2, math.MaxInt} {
				checkError(t, "number", b, at, n, api.ErrRange)
			}
		}
		for _, n := range []int{0, 1, 2, api.MaxNumbers} {
			checkError(t, "no byte", b, len(b), n, api.ErrTruncated)
		}
	}
	// What stands behind the length is not read.
	memory := []byte{0, 0, 1, 0, 5}
	checkError(t, "memory behind", memory[:0], 0, 0, api.ErrTruncated)
	checkError(t, "memory behind", memory[:1], 0, 0, api.ErrTruncated)
	checkError(t, "memory behind", memory[:2], 0, 1, api.ErrTruncated)
	checkError(t, "memory behind", memory[:3], 3, 0, api.ErrTruncated)
}

func TestOrdersThatAreRefused(t *testing.T) {
	for order := 3; order < 256; order++ {
		for _, n := range []int{0, 1, 2, api.MaxNumbers} {
			// This error precedes those of the numbers: none, a missing one, another form.
			for _, after := range [][]byte{nil, {0}, {0, 1}, {1, 0}, {2}, {0, 0x80, 0}} {
				b := slices.Concat([]byte{byte(order)}, after)
				checkError(t, "order", b, 0, n, api.ErrForm)
				checkError(t, "order", slices.Concat([]byte{0, 0}, b), 2, n, api.ErrForm)
			}
		}
	}
}

func TestErrorsOfNumbers(t *testing.T) {
	for _, x := range []struct {
		name string
		b    []byte
		n    int
		want api.Errno
	}{
		{"no form", nil, 0, api.ErrTruncated},
		{"no form", nil, 1, api.ErrTruncated},
		{"another form", []byte{2}, 0, api.ErrForm},
		{"another form", []byte{255, 1, 1}, 2, api.ErrForm},
		{"no number", []byte{0}, 1, api.ErrTruncated},
		{"a number is missing", []byte{0, 5}, 2, api.ErrTruncated},
		{"a number is cut", []byte{0, 0x80}, 1, api.ErrTruncated},
		{"a group 0", []byte{0, 0x80, 0}, 1, api.ErrForm},
		{"2^64", nines([]byte{0}, 255, 2), 1, api.ErrForm},
		{"no width", []byte{1}, 1, api.ErrTruncated},
		{"a width of 65", []byte{1, 65, 0}, 1, api.ErrForm},
		{"too few bytes", []byte{1, 5, 0xff}, 3, api.ErrTruncated},
		{"a bit behind the last number", []byte{1, 1, 0x80}, 7, api.ErrForm},
		{"no numbers in packed form", []byte{1, 0}, 0, api.ErrForm},
		{"a greater width than is needed", []byte{1, 2, 0x55, 0x55}, 8, api.ErrForm},
		{"packed is shorter", []byte{0, 1, 1, 1, 1, 1}, 5, api.ErrForm},
		{"plain is shorter", []byte{1, 1, 1}, 1, api.ErrForm},
		{"the most numbers", []byte{0, 1, 2, 3}, api.MaxNumbers, api.ErrTruncated},
	} {
		for order := range 3 {
			b := slices.Concat([]byte{byte(order)}, x.b)
			checkError(t, x.name, b, 0, x.n, x.want)
			checkError(t, x.name, slices.Concat([]byte{0, 0}, b), 2, x.n, x.want)
			if e := checkModel(t, b, 0, x.n); e != x.want {
				t.Errorf("%s: the test expects %v", x.name, e)
			}
		}
	}
}

func TestOrdersThatAreNotTheEncoding(t *testing.T) {
	random := rand.New(rand.NewSource(115))
	refused := map[int]int{}
	check := func(l []int64) {
		want := encoding(l)
		for order, b := range texts(l) {
			if bytes.Equal(b, want) {
				checkDecode(t, "the encoding", b, 0, len(l), l, len(b), api.OK)
				continue
			}
			refused[len(b)-len(want)]++
			checkError(t, "another order", b, 0, len(l), api.ErrForm)
			checkError(t, "another order", slices.Concat([]byte{byte(order)}, b, want), 1, len(l), api.ErrForm)
		}
	}
	for _, x := range examples() {
		check(x.l)
	}
	for range 5000 {
		check(randomList(random, random.Intn(20), random.Intn(65)))
	}
	if refused[0] < 100 || refused[1] < 100 || refused[2] < 100 {
		t.Errorf("encodings of other orders that are as short or little longer are too few: %v", refused)
	}
}

func TestShortByteStrings(t *testing.T) {
	for n := range 5 {
		checkModel(t, nil, 0, n)
		for i := range 256 {
			checkModel(t, []byte{byte(i)}, 0, n)
			for k := range 256 {
				checkModel(t, []byte{byte(i), byte(k)}, 0, n)
			}
		}
		for order := range 3 {
			for i := range 256 {
				for k := range 3 {
					checkModel(t, []byte{byte(order), byte(k), byte(i)}, 0, n)
				}
			}
		}
	}
}

func TestBentEncodings(t *testing.T) {
	random := rand.New(rand.NewSource(116))
	counts := map[api.Errno]int{}
	for range 20000 {
		l := randomList(random, random.Intn(12), random.Intn(65))
		b, _ := Encode(l)
		b = slices.Concat(b, []byte{byte(random.Intn(256)), 0, 1}[:random.Intn(4)])
		b[random.Intn(len(b))] ^= 1 << random.Intn(8)
		counts[checkModel(t, b, 0, len(l))]++
		checkModel(t, b, random.Intn(len(b)), random.Intn(4))
		checkModel(t, b, 0, len(l)+random.Intn(5)-2)
	}
	for _, e := range []api.Errno{api.OK, api.ErrTruncated, api.ErrForm} {
		if counts[e] < 100 {
			t.Errorf("too few of %v: %v", e, counts)
		}
	}
}

func TestBeginnings(t *testing.T) {
	random := rand.New(rand.NewSource(117))
	for range 2000 {
		l := randomList(random, random.Intn(20), random.Intn(65))
		b, _ := Encode(l)
		for end := range b {
			checkError(t, "a beginning", b[:end], 0, len(l), api.ErrTruncated)
		}
	}
}

// Promise 11.4.

func TestThereAndBack(t *testing.T) {
	random := rand.New(rand.NewSource(118))
	check := func(l []int64) {
		b, e := Encode(l)
		if e != api.OK {
			t.Fatalf("Encode(%v): %v", l, e)
		}
		checkDecode(t, "there and back", b, 0, len(l), l, len(b), api.OK)
	}
	for range 5000 {
		check(randomList(random, random.Intn(60), random.Intn(65)))
	}
	someLists(4, check)
}

func TestOneEncodingForEachList(t *testing.T) {
	// Lists with as many elements have other bytes.
	type kind struct {
		n    int
		text string
	}
	seen := map[kind]bool{}
	someLists(4, func(l []int64) {
		b, e := Encode(l)
		k := kind{len(l), string(b)}
		if e != api.OK || seen[k] {
			t.Errorf("Encode(%v) = %x, %v: the encoding of another list", l, b, e)
		}
		seen[k] = true
	})
}

func TestOneListForEachEncoding(t *testing.T) {
	// What is decoded has bytes as its encoding that are those that were read, so no list is read from two byte strings.
	read := [3]int{}
	for i := range 1 << 16 {
		for order := range 3 {
			for form := range 2 {
				b := []byte{byte(order), byte(form), byte(i), byte(i >> 8), byte(i % 5)}
				for n := range 5 {
					l, end, e := Decode(b, 0, n)
					if e != api.OK {
						continue
					}
					read[order]++
					again, e := Encode(l)
					if e != api.OK || !bytes.Equal(again, b[:end]) || len(l) != n {
						t.Errorf("Decode(%x, 0, %d) = %v, which has the encoding %x", b, n, l, again)
					}
				}
			}
		}
	}
	if slices.Min(read[:]) < 100 {
		t.Errorf("%v lists are too few", read)
	}
}

func TestListsInARow(t *testing.T) {
	random := rand.New(rand.NewSource(119))
	var lists [][]int64
	var b []byte
	for range 300 {
		l := randomList(random, random.Intn(9), random.Intn(65))
		one, _ := Encode(l)
		lists = append(lists, l)
		b = append(b, one...)
	}
	at := 0
	for _, want := range lists {
		l, end, e := Decode(b, at, len(want))
		if e != api.OK || !slices.Equal(l, want) {
			t.Fatalf("at %d: %v, %v, not %v", at, l, e, want)
		}
		at = end
	}
	if at != len(b) {
		t.Errorf("reading ends at %d of %d bytes", at, len(b))
	}
}

func FuzzDecode(f *testing.F) {
	for _, x := range examples() {
		f.Add(x.b, 0, len(x.l))
	}
	f.Add([]byte{9, 1, 0, 4}, 1, 1)
	f.Add([]byte{3, 0}, 0, 0)
	f.Add([]byte{0, 0}, -1, api.MaxNumbers)
	f.Fuzz(func(t *testing.T, b []byte, at, n int) {
		l, end, e := Decode(b, at, n)
		want, wantEnd, wantErr := decoded(b, at, n)
		if e != wantErr || end != wantEnd || !slices.Equal(l, want) {
			t.Fatalf("%v, %d, %v, not %v, %d, %v", l, end, e, want, wantEnd, wantErr)
		}
		if e != api.OK {
			return
		}
		if again, e := Encode(l); e != api.OK || !bytes.Equal(again, b[at:end]) {
			t.Fatalf("%x, %v, not %x", again, e, b[at:end])
		}
	})
}

// Rules 2 to 4.

func TestListsAreKept(t *testing.T) {
	for _, x := range examples() {
		backing := slices.Concat([]int64{7, least}, x.l, []int64{8, 9, greatest})
		was := slices.Clone(backing)
		within := backing[2 : 2+len(x.l)]
		first, _ := Encode(within)
		second, _ := Encode(within)
		for i := range first[:cap(first)] {
			first[:cap(first)][i] ^= 255
		}
		if !slices.Equal(backing, was) || !bytes.Equal(second, x.b) {
			t.Errorf("%v: Encode changes its argument or its results share memory", x.l)
		}
		for order, codes := range x.codes {
			one, _ := Residuals(within, order)
			other, _ := Residuals(within, order)
			for i := range one[:cap(one)] {
				one[:cap(one)][i] ^= top
			}
			if !slices.Equal(backing, was) || !slices.Equal(other, codes) {
				t.Errorf("%v, order %d: Residuals changes its argument or its results share memory", x.l, order)
			}
		}
	}
}

func TestBytesAreKept(t *testing.T) {
	for _, x := range examples() {
		backing := slices.Concat([]byte{255, 1}, x.b, []byte{255, 0, 255})
		was := slices.Clone(backing)
		b := backing[:2+len(x.b)]
		first, _, e := Decode(b, 2, len(x.l))
		second, _, again := Decode(b, 2, len(x.l))
		if e != api.OK || again != api.OK {
			t.Fatalf("%v: %v, %v", x.l, e, again)
		}
		for i := range first[:cap(first)] {
			first[:cap(first)][i] ^= -1
		}
		if !bytes.Equal(backing, was) || !slices.Equal(second, x.l) {
			t.Errorf("%v: Decode changes its argument or its results share memory", x.l)
		}
	}
}

func TestNilAndEmpty(t *testing.T) {
	for _, l := range [][]int64{nil, {}} {
		checkEncode(t, l, []byte{0, 0})
		for order := range 3 {
			checkResiduals(t, l, order, nil)
		}
	}
	for _, b := range [][]byte{nil, {}} {
		checkError(t, "no bytes", b, 0, 0, api.ErrTruncated)
		checkError(t, "no bytes", b, 0, 1, api.ErrTruncated)
		checkError(t, "no bytes", b, 0, -1, api.ErrRange)
		checkError(t, "no bytes", b, 1, 0, api.ErrRange)
	}
}
