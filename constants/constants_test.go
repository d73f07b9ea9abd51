package constants

import (
	"bytes"
	"math"
	"math/big"
	"math/rand"
	"slices"
	"testing"

	"tscodec/api"
	"tscodec/numbers"
	"tscodec/residual"
	"tscodec/varint"
)

const (
	least    = math.MinInt64
	greatest = math.MaxInt64
	top      = math.MaxUint64
)

// text returns the bytes of a list of codes, the counts less 1, and a list of values, also where they are not the encoding of any segments.
func text(codes []uint64, values []int64) []byte {
	c, _ := numbers.Encode(codes)
	v, _ := residual.Encode(values)
	return slices.Concat(varint.Append(nil, uint64(len(codes))), c, v)
}

// sumOf returns the sum of the counts that codes stand for.
func sumOf(codes []uint64) *big.Int {
	sum := big.NewInt(int64(len(codes)))
	for _, code := range codes {
		sum.Add(sum, new(big.Int).SetUint64(code))
	}
	return sum
}

// encoded says what Encode is to return, in the order of promise 17.1.
func encoded(l []api.Constant) ([]byte, api.Errno) {
	if len(l) > api.MaxChunk {
		return nil, api.ErrLimit
	}
	codes, values := make([]uint64, len(l)), make([]int64, len(l))
	for i, x := range l {
		if x.Count < 1 {
			return nil, api.ErrCount
		}
		codes[i], values[i] = uint64(x.Count)-1, x.Value
	}
	if sumOf(codes).Cmp(big.NewInt(api.MaxChunk)) > 0 {
		return nil, api.ErrCount
	}
	return text(codes, values), api.OK
}

// decoded says what Decode is to return, in the order of promise 17.2.
func decoded(b []byte, at, total int) ([]api.Constant, int, api.Errno) {
	if at < 0 || at > len(b) || total < 0 || total > api.MaxChunk {
		return nil, 0, api.ErrRange
	}
	n, at, e := varint.Read(b, at)
	if e != api.OK {
		return nil, 0, e
	}
	if new(big.Int).SetUint64(n).Cmp(big.NewInt(int64(total))) > 0 {
		return nil, 0, api.ErrCount
	}
	codes, at, e := numbers.Decode(b, at, int(n))
	if e != api.OK {
		return nil, 0, e
	}
	values, at, e := residual.Decode(b, at, int(n))
	if e != api.OK {
		return nil, 0, e
	}
	if sumOf(codes).Cmp(big.NewInt(int64(total))) != 0 {
		return nil, 0, api.ErrCount
	}
	var l []api.Constant
	for i, v := range values {
		l = append(l, api.Constant{Count: int(codes[i] + 1), Value: v})
	}
	return l, at, api.OK
}

// checkEncode demands the bytes and the error of a list.
func checkEncode(t *testing.T, l []api.Constant, want []byte, wantErr api.Errno) {
	t.Helper()
	if got, e := Encode(l); e != wantErr || !bytes.Equal(got, want) {
		t.Errorf("Encode(%v) = %x, %v, not %x, %v", l[:min(len(l), 20)], got, e, want, wantErr)
	}
}

// checkDecode demands a list, the index behind it and the error of bytes.
func checkDecode(t *testing.T, name string, b []byte, at, total int, want []api.Constant, wantEnd int, wantErr api.Errno) {
	t.Helper()
	l, end, e := Decode(b, at, total)
	if e != wantErr || end != wantEnd || !slices.Equal(l, want) {
		t.Errorf("%s: Decode(%x, %d, %d) = %v, %d, %v, not %v, %d, %v", name, b, at, total, l, end, e, want, wantEnd, wantErr)
	}
}

// checkError demands an error with zero values beside it, also behind other bytes.
func checkError(t *testing.T, name string, b []byte, total int, want api.Errno) {
	t.Helper()
	checkDecode(t, name, b, 0, total, nil, 0, want)
	checkDecode(t, name, slices.Concat([]byte{0, 0, 0, 0}, b), 4, total, nil, 0, want)
}

// checkModel demands the result that promise 17.2 says, and returns its error.
func checkModel(t *testing.T, b []byte, at, total int) api.Errno {
	t.Helper()
	want, end, e := decoded(b, at, total)
	checkDecode(t, "model", b, at, total, want, end, e)
	return e
}

// totalOf returns the number of samples of segments.
func totalOf(l []api.Constant) int {
	total := 0
	for _, x := range l {
		total += x.Count
	}
	return total
}

// example is a list with its encoding.
type example struct {
	l []api.Constant
	b []byte
}

// repeated returns n equal segments.
func repeated(n, count int, value int64) []api.Constant {
	return slices.Repeat([]api.Constant{{Count: count, Value: value}}, n)
}

// ascending returns n segments of 1, 2, 3 and so on samples, whose values are from first on.
func ascending(n int, first int64) []api.Constant {
	l := make([]api.Constant, n)
	for i := range l {
		l[i] = api.Constant{Count: i + 1, Value: first + int64(i)}
	}
	return l
}

// examples are lists whose encodings are written out.
func examples() []example {
	return []example{
		{[]api.Constant{{Count: 3, Value: 3}, {Count: 1, Value: 6}}, []byte{2, 0, 2, 0, 0, 0, 6, 12}},
		{nil, []byte{0, 0, 0, 0}},
		// One segment.
		{[]api.Constant{{Count: 1, Value: 0}}, []byte{1, 0, 0, 0, 0, 0}},
		{[]api.Constant{{Count: 1, Value: -1}}, []byte{1, 0, 0, 0, 0, 1}},
		{[]api.Constant{{Count: 2, Value: 1}}, []byte{1, 0, 1, 0, 0, 2}},
		{[]api.Constant{{Count: 128, Value: -64}}, []byte{1, 0, 0x7f, 0, 0, 0x7f}},
		{[]api.Constant{{Count: 129, Value: 64}}, []byte{1, 0, 0x80, 1, 0, 0, 0x80, 1}},
		{[]api.Constant{{Count: 1, Value: least}}, []byte{1, 0, 0, 0, 1, 64, 255, 255, 255, 255, 255, 255, 255, 255}},
		{[]api.Constant{{Count: api.MaxChunk, Value: greatest}}, []byte{1, 0, 0xff, 0x1f, 0, 1, 64, 254, 255, 255, 255, 255, 255, 255, 255}},
		// Neighbours with the same value are not joined.
		{[]api.Constant{{Count: 1, Value: 5}, {Count: 1, Value: 5}}, []byte{2, 1, 0, 0, 0, 10, 10}},
		{[]api.Constant{{Count: 1, Value: 5}, {Count: 2, Value: 5}}, []byte{2, 0, 0, 1, 0, 0, 10, 10}},
		{[]api.Constant{{Count: 2, Value: 5}, {Count: 1, Value: 5}}, []byte{2, 0, 1, 0, 0, 0, 10, 10}},
		// The segments stay in their order.
		{[]api.Constant{{Count: 1, Value: 6}, {Count: 3, Value: 3}}, []byte{2, 0, 0, 2, 0, 0, 12, 6}},
		{[]api.Constant{{Count: 4095, Value: -64}, {Count: 1, Value: 64}}, []byte{2, 0, 0xfe, 0x1f, 0, 0, 0, 0x7f, 0x80, 1}},
		{[]api.Constant{{Count: 1, Value: least}, {Count: 1, Value: greatest}, {Count: 1, Value: least}}, []byte{3, 1, 0, 1, 0, 255, 255, 255, 255, 255, 255, 255, 255, 255, 1, 1, 2}},
		// Packed counts, and values with each of the orders.
		{repeated(9, 2, 0), []byte{9, 1, 1, 255, 1, 0, 1, 0}},
		{ascending(10, 1000), []byte{10, 1, 4, 0x10, 0x32, 0x54, 0x76, 0x98, 1, 0, 0xd0, 0x0f, 2, 2, 2, 2, 2, 2, 2, 2, 2}},
		{[]api.Constant{{Count: 1, Value: 0}, {Count: 1, Value: 1000}, {Count: 1, Value: 2000}, {Count: 1, Value: 3000}}, []byte{4, 1, 0, 2, 0, 0, 0xd0, 0x0f, 0, 0}},
		// The number of the segments has more than one byte.
		{repeated(127, 1, 0), []byte{127, 1, 0, 0, 1, 0}},
		{repeated(128, 1, 0), []byte{0x80, 1, 1, 0, 0, 1, 0}},
		{repeated(api.MaxChunk, 1, 0), []byte{0x80, 0x20, 1, 0, 0, 1, 0}},
	}
}

// someLists calls do with every list of at most n segments that have one of the counts and one of the values.
func someLists(n int, counts []int, values []int64, do func(l []api.Constant)) {
	var extend func(l []api.Constant)
	extend = func(l []api.Constant) {
		do(slices.Clone(l))
		if len(l) == n {
			return
		}
		for _, count := range counts {
			for _, v := range values {
				extend(append(slices.Clone(l), api.Constant{Count: count, Value: v}))
			}
		}
	}
	extend(nil)
}

// randomList returns n segments, few of them long, with values of at most as many bits as width says, or with sums of such.
func randomList(random *rand.Rand, n, width int) []api.Constant {
	sums := random.Intn(2) == 1
	at := int64(0)
	l := make([]api.Constant, n)
	for i := range l {
		l[i].Count = 1 + random.Intn(1+random.Intn(1+random.Intn(api.MaxChunk/n)))
		noise := int64(random.Uint64()) >> (64 - width)
		at += noise
		l[i].Value = noise
		if sums {
			l[i].Value = at
		}
	}
	return l
}

// Promise 17.1.

func TestBytesOfSegments(t *testing.T) {
	for _, x := range examples() {
		checkEncode(t, x.l, x.b, api.OK)
		if want, e := encoded(x.l); e != api.OK || !bytes.Equal(want, x.b) {
			t.Errorf("%v: the test expects %x and %x, %v", x.l, x.b, want, e)
		}
	}
}

func TestEncodeAtTheEnds(t *testing.T) {
	counts := []int{math.MinInt, -1, 0, 1, 2, 128, 129, 2048, 4094, 4095, 4096, 4097, math.MaxInt}
	someLists(3, counts, []int64{least, 0, 1000, greatest}, func(l []api.Constant) {
		want, e := encoded(l)
		checkEncode(t, l, want, e)
	})
}

func TestEncodeAtRandom(t *testing.T) {
	random := rand.New(rand.NewSource(171))
	for width := range 65 {
		for n := 1; n < 60; n++ {
			l := randomList(random, n, width)
			want, e := encoded(l)
			if e != api.OK {
				t.Fatalf("%v: %v", l, e)
			}
			checkEncode(t, l, want, api.OK)
		}
	}
}

func TestTooManySegments(t *testing.T) {
	for _, n := range []int{api.MaxChunk + 1, api.MaxChunk + 2, 2 * api.MaxChunk, api.MaxNumbers, api.MaxNumbers + 1, 1 << 20} {
		// This error precedes that of the counts.
		for _, count := range []int{1, 0, -1, math.MinInt, api.MaxChunk, math.MaxInt} {
			checkEncode(t, repeated(n, count, 5), nil, api.ErrLimit)
		}
	}
}

func TestCountsThatAreRefused(t *testing.T) {
	for _, count := range []int{0, -1, -2, -api.MaxChunk, math.MinInt, math.MinInt + 1, api.MaxChunk + 1, api.MaxNumbers, 1 << 32, 1<<32 + 1, math.MaxInt} {
		for n := 1; n < 5; n++ {
			for i := range n {
				l := repeated(n, 1, 7)
				l[i].Count = count
				checkEncode(t, l, nil, api.ErrCount)
			}
		}
		l := repeated(api.MaxChunk, 1, 7)
		l[len(l)-1].Count = count
		checkEncode(t, l, nil, api.ErrCount)
	}
	// A negative count does not make room for others, whatever the sum is.
	checkEncode(t, []api.Constant{{Count: 5}, {Count: -2}, {Count: 1}}, nil, api.ErrCount)
	checkEncode(t, []api.Constant{{Count: api.MaxChunk}, {Count: -1}, {Count: 1}}, nil, api.ErrCount)
	checkEncode(t, []api.Constant{{Count: math.MaxInt}, {Count: math.MinInt}, {Count: 2}}, nil, api.ErrCount)
}

func TestSumOfTheCounts(t *testing.T) {
	for _, l := range [][]api.Constant{
		{{Count: api.MaxChunk}},
		{{Count: api.MaxChunk - 1}, {Count: 1}},
		{{Count: 1}, {Count: api.MaxChunk - 1}},
		{{Count: 2000}, {Count: 96}, {Count: 2000}},
		repeated(2, api.MaxChunk/2, 3),
		repeated(64, api.MaxChunk/64, 3),
		repeated(api.MaxChunk, 1, 3),
	} {
		want, e := encoded(l)
		if totalOf(l) != api.MaxChunk || e != api.OK {
			t.Fatalf("%v are not all samples of a chunk: %v", l, e)
		}
		checkEncode(t, l, want, api.OK)
		for _, i := range []int{0, len(l) / 2, len(l) - 1} {
			more := slices.Clone(l)
			more[i].Count++
			checkEncode(t, more, nil, api.ErrCount)
		}
		if len(l) < api.MaxChunk {
			checkEncode(t, append(slices.Clone(l), api.Constant{Count: 1}), nil, api.ErrCount)
		}
	}
	// Sums that are small modulo 2^64, and modulo 2^32.
	checkEncode(t, []api.Constant{{Count: math.MaxInt}, {Count: math.MaxInt}, {Count: 2}}, nil, api.ErrCount)
	checkEncode(t, []api.Constant{{Count: math.MaxInt}, {Count: math.MaxInt}, {Count: 3}, {Count: 4}}, nil, api.ErrCount)
	checkEncode(t, repeated(4, 1<<62, 0), nil, api.ErrCount)
	checkEncode(t, repeated(4, 1<<30, 0), nil, api.ErrCount)
}

// Promise 17.2.

func TestDecode(t *testing.T) {
	for _, x := range examples() {
		for _, front := range [][]byte{nil, {0}, {1, 1}, {255, 0x80, 2}} {
			for _, after := range [][]byte{nil, {0}, {1}, {127}, {128}, {255, 255}} {
				b := slices.Concat(front, x.b, after)
				at := len(front)
				checkDecode(t, "example", b, at, totalOf(x.l), x.l, at+len(x.b), api.OK)
			}
		}
	}
}

func TestArgumentsOutOfRange(t *testing.T) {
	for _, b := range [][]byte{nil, {}, {0}, {0x80}, {0x80, 0}, {5}, {0, 0, 0, 0}, {1, 0, 0, 0, 0, 0}, {1, 2}, {255, 255}, make([]byte, 0, 9)} {
		for _, at := range []int{math.MinInt, -1000, -1, len(b) + 1, len(b) + 1000, math.MaxInt - 1, math.MaxInt} {
			for _, total := range []int{math.MinInt, -1, 0, 1, 2, api.MaxChunk, api.MaxChunk + 1, math.MaxInt} {
				checkDecode(t, "index", b, at, total, nil, 0, api.ErrRange)
			}
		}
		for at := range len(b) + 1 {
			for _, total := range []int{math.MinInt, -api.MaxChunk, -1, api.MaxChunk + 1, api.MaxChunk + 2, api.MaxNumbers, math.MaxInt} {
				checkDecode(t, "total", b, at, total, nil, 0, api.ErrRange)
			}
		}
		for _, total := range []int{0, 1, 2, api.MaxChunk} {
			checkDecode(t, "no byte", b, len(b), total, nil, 0, api.ErrTruncated)
		}
	}
	// What stands behind the length is not read.
	memory := slices.Concat(examples()[0].b, []byte{0})
	for i := range len(memory) - 1 {
		checkDecode(t, "memory behind", memory[:i], 0, 4, nil, 0, api.ErrTruncated)
	}
}

func TestErrorsOfTheNumber(t *testing.T) {
	for _, total := range []int{0, 1, 4, 200, api.MaxChunk} {
		checkError(t, "no byte", nil, total, api.ErrTruncated)
		checkError(t, "a number that is cut", []byte{0x80}, total, api.ErrTruncated)
		checkError(t, "a number that is cut", slices.Repeat([]byte{0xff}, 9), total, api.ErrTruncated)
		checkError(t, "a group 0", []byte{0x80, 0, 0, 0, 0, 0}, total, api.ErrForm)
		checkError(t, "a group 0", []byte{0x81, 0x80, 0, 0, 0, 0, 0, 0}, total, api.ErrForm)
		checkError(t, "2^64", slices.Concat(slices.Repeat([]byte{0x80}, 9), []byte{2}), total, api.ErrForm)
		checkError(t, "no last group", slices.Repeat([]byte{0xff}, 10), total, api.ErrForm)
	}
}

func TestMoreSegmentsThanSamples(t *testing.T) {
	for _, total := range []int{0, 1, 2, 3, 127, 128, 200, api.MaxChunk - 1, api.MaxChunk} {
		for _, n := range []uint64{uint64(total) + 1, uint64(total) + 2, api.MaxChunk + 1, api.MaxNumbers, api.MaxNumbers + 1, 1 << 32, 1<<32 + 1, 1 << 63, 1<<63 + 1, top - 1, top} {
			// This error precedes those of what follows: nothing, other forms, numbers that are cut.
			for _, after := range [][]byte{nil, {0}, {2}, {1, 0}, {0, 0, 0, 0, 0, 0, 0}, {0, 0x80}, {0, 0x80, 0}, {0, 0, 0, 3}} {
				checkError(t, "the number", slices.Concat(varint.Append(nil, n), after), total, api.ErrCount)
			}
		}
	}
	checkError(t, "as many as there are", text(make([]uint64, 5), make([]int64, 5)), 4, api.ErrCount)
	checkDecode(t, "as many as samples", text(make([]uint64, 5), make([]int64, 5)), 0, 5, repeated(5, 1, 0), 6, api.OK)
}

// refusal is what stands for a list of numbers, and the error of its reading.
type refusal struct {
	name string
	b    []byte
	want api.Errno
}

// refusals are what numbers.Decode refuses as two numbers, also where more than one could be read.
func refusals() []refusal {
	return []refusal{
		{"another form", []byte{2, 0, 0}, api.ErrForm},
		{"another form", []byte{255, 0, 0}, api.ErrForm},
		{"a group 0", []byte{0, 1, 0x80, 0}, api.ErrForm},
		{"2^64", []byte{0, 1, 0x80, 0x80, 0x80, 0x80, 0x80, 0x80, 0x80, 0x80, 0x80, 2}, api.ErrForm},
		{"a width of 65", []byte{1, 65, 0, 0, 0, 0}, api.ErrForm},
		{"a bit behind the last number", []byte{1, 1, 0x80}, api.ErrForm},
		{"plain is as short", []byte{1, 1, 2}, api.ErrForm},
		{"packed is shorter", []byte{0, 0, 0}, api.ErrForm},
		{"nothing", nil, api.ErrTruncated},
		{"no number", []byte{0}, api.ErrTruncated},
		{"a number is missing", []byte{0, 1}, api.ErrTruncated},
		{"a number is cut", []byte{0, 1, 0x80}, api.ErrTruncated},
		{"no width", []byte{1}, api.ErrTruncated},
		{"too few bytes", []byte{1, 5, 0xff}, api.ErrTruncated},
	}
}

func TestErrorsOfTheCounts(t *testing.T) {
	for _, x := range refusals() {
		b := slices.Concat([]byte{2}, x.b)
		for _, total := range []int{2, 3, 4, api.MaxChunk} {
			checkError(t, x.name, b, total, x.want)
		}
		if x.want == api.ErrTruncated {
			continue
		}
		// This error precedes those of the values: none, missing ones.
		for _, after := range [][]byte{nil, {0}, {0, 0}, {0, 0, 5}, {0, 0, 5, 0x80}} {
			checkError(t, x.name, slices.Concat(b, after), 3, api.ErrForm)
		}
	}
}

func TestErrorsOfTheValues(t *testing.T) {
	// Counts 2 and 1, 1 and 1, and such with a sum of 2^64, 2^64 + 3, 2^65: the errors of the values precede that of the sum.
	for _, codes := range [][]uint64{{1, 0}, {0, 0}, {top - 1, 0}, {top, 2}, {top, top}} {
		c, _ := numbers.Encode(codes)
		front := slices.Concat([]byte{2}, c)
		for _, total := range []int{2, 3, 4, api.MaxChunk} {
			checkError(t, "no order", front, total, api.ErrTruncated)
			checkError(t, "another order", slices.Concat(front, []byte{3}), total, api.ErrForm)
			checkError(t, "another order", slices.Concat(front, []byte{255, 0, 0, 0}), total, api.ErrForm)
			checkError(t, "not the shortest order", slices.Concat(front, []byte{1, 0, 6, 6}), total, api.ErrForm)
			checkError(t, "not the shortest order", slices.Concat(front, []byte{0, 0, 0xd0, 0x0f, 0xd0, 0x0f}), total, api.ErrForm)
			for _, x := range refusals() {
				checkError(t, x.name, slices.Concat(front, []byte{0}, x.b), total, x.want)
			}
		}
	}
}

func TestCountsThatAreNotTheTotal(t *testing.T) {
	for _, codes := range [][]uint64{nil, {0}, {5}, {2, 0}, {0, 2}, {9, 9, 9}, {4094}, {4095}, {4095, 0}, {0, 4095}, {4096}, {1 << 32}, {greatest}, {greatest, greatest}, {greatest, greatest, 2}, {1 << 63, 1 << 63, 3}, {top}, {top, 4}, {4, top}, {top - 1, 4}, {4, top - 1}, {7, top - 1}, {top, top, 7}, {top - 4, 7}} {
		values := []int64{3, 6, -5, greatest}[:len(codes)]
		b := text(codes, values)
		for total := range 50 {
			want := api.ErrCount
			if sumOf(codes).Cmp(big.NewInt(int64(total))) == 0 {
				want = api.OK
			}
			if e := checkModel(t, b, 0, total); e != want {
				t.Errorf("%v, %d: %v", codes, total, e)
			}
		}
		for total := api.MaxChunk - 5; total <= api.MaxChunk; total++ {
			checkModel(t, b, 0, total)
		}
	}
}

func TestShortByteStrings(t *testing.T) {
	for total := range 5 {
		checkModel(t, nil, 0, total)
		for i := range 256 {
			checkModel(t, []byte{byte(i)}, 0, total)
			for k := range 256 {
				checkModel(t, []byte{byte(i), byte(k)}, 0, total)
			}
		}
	}
	// All strings of numbers from 0 to 3 and one byte that has another group behind it.
	letters := []byte{0, 1, 2, 3, 0x80}
	var b [7]byte
	for i := range 78125 {
		for k := range b {
			b[k] = letters[i%5]
			i /= 5
		}
		for total := range 5 {
			checkModel(t, b[:], 0, total)
		}
	}
}

func TestBentEncodings(t *testing.T) {
	random := rand.New(rand.NewSource(172))
	errors := map[api.Errno]int{}
	for range 20000 {
		l := randomList(random, 1+random.Intn(12), random.Intn(65))
		b, _ := Encode(l)
		b = slices.Concat(b, []byte{byte(random.Intn(256)), 0, 1}[:random.Intn(4)])
		b[random.Intn(len(b))] ^= 1 << random.Intn(8)
		errors[checkModel(t, b, 0, totalOf(l))]++
		checkModel(t, b, random.Intn(len(b)), random.Intn(20))
		checkModel(t, b, 0, min(max(0, totalOf(l)+random.Intn(5)-2), api.MaxChunk))
	}
	for _, e := range []api.Errno{api.OK, api.ErrTruncated, api.ErrForm, api.ErrCount} {
		if errors[e] < 100 {
			t.Errorf("too few of %v: %v", e, errors)
		}
	}
}

func TestBeginnings(t *testing.T) {
	random := rand.New(rand.NewSource(173))
	check := func(l []api.Constant) {
		b, _ := Encode(l)
		for end := range b {
			checkDecode(t, "a beginning", b[:end], 0, totalOf(l), nil, 0, api.ErrTruncated)
		}
	}
	for _, x := range examples() {
		check(x.l)
	}
	for range 2000 {
		check(randomList(random, 1+random.Intn(20), random.Intn(65)))
	}
}

// Promise 17.3.

// thereAndBack demands that a list is given back from what Encode returns.
func thereAndBack(t *testing.T, l []api.Constant) {
	t.Helper()
	b, e := Encode(l)
	if e != api.OK {
		t.Fatalf("Encode(%v): %v", l, e)
	}
	checkDecode(t, "there and back", b, 0, totalOf(l), l, len(b), api.OK)
}

func TestThereAndBack(t *testing.T) {
	someLists(3, []int{1, 2, 128, 129, 1300}, []int64{least, -1, 0, 1000, greatest}, func(l []api.Constant) {
		thereAndBack(t, l)
	})
	random := rand.New(rand.NewSource(174))
	for range 5000 {
		thereAndBack(t, randomList(random, 1+random.Intn(40), random.Intn(65)))
	}
	for _, n := range []int{1000, 4000, api.MaxChunk - 1, api.MaxChunk} {
		for width := 0; width < 65; width += 8 {
			thereAndBack(t, randomList(random, n, width))
		}
	}
}

func TestOneEncoding(t *testing.T) {
	// What is decoded has the bytes that were read as its encoding, and they are read with one total only.
	read := 0
	check := func(b []byte) {
		totals := 0
		for total := range 9 {
			l, end, e := Decode(b, 0, total)
			if e != api.OK {
				continue
			}
			totals++
			if again, e := Encode(l); e != api.OK || !bytes.Equal(again, b[:end]) || totalOf(l) != total {
				t.Errorf("Decode(%x, 0, %d) = %v, which has the encoding %x", b, total, l, again)
			}
		}
		if totals > 1 {
			t.Errorf("%x is read with %d totals", b, totals)
		}
		read += totals
	}
	for i := range 1 << 16 {
		check([]byte{byte(i % 4), byte(i >> 2 % 2), byte(i >> 3 % 8), byte(i >> 6 % 4), byte(i >> 8 % 4), byte(i >> 10 % 4), byte(i >> 12 % 4), byte(i >> 14)})
	}
	if read < 1000 {
		t.Errorf("%d lists are too few", read)
	}
}

func TestListsInARow(t *testing.T) {
	random := rand.New(rand.NewSource(175))
	var lists [][]api.Constant
	var b []byte
	for range 300 {
		l := randomList(random, 1+random.Intn(9), random.Intn(65))[random.Intn(2):]
		one, _ := Encode(l)
		lists = append(lists, l)
		b = append(b, one...)
	}
	at := 0
	for _, want := range lists {
		l, end, e := Decode(b, at, totalOf(want))
		if e != api.OK || !slices.Equal(l, want) {
			t.Fatalf("at %d: %v, %v, not %v", at, l, e, want)
		}
		at = end
	}
	if at != len(b) {
		t.Errorf("reading ends at %d of %d bytes", at, len(b))
	}
}

func FuzzDecode(f *testing.F) {
	for _, x := range examples() {
		f.Add(x.b, 0, totalOf(x.l))
	}
	f.Add([]byte{9, 1, 0, 0, 0, 0, 4}, 1, 1)
	f.Add([]byte{2, 0, 2, 0, 3}, 0, 4)
	f.Add([]byte{0, 0, 0, 0}, -1, api.MaxChunk)
	f.Fuzz(func(t *testing.T, b []byte, at, total int) {
		l, end, e := Decode(b, at, total)
		want, wantEnd, wantErr := decoded(b, at, total)
		if e != wantErr || end != wantEnd || !slices.Equal(l, want) {
			t.Fatalf("%v, %d, %v, not %v, %d, %v", l, end, e, want, wantEnd, wantErr)
		}
		if e != api.OK {
			return
		}
		if again, e := Encode(l); e != api.OK || !bytes.Equal(again, b[at:end]) {
			t.Fatalf("%x, %v, not %x", again, e, b[at:end])
		}
	})
}

// Rules 2 to 4.

func TestListsAreKept(t *testing.T) {
	for _, x := range examples() {
		backing := slices.Concat([]api.Constant{{Count: 7, Value: least}}, x.l, []api.Constant{{Count: -8, Value: 9}, {Count: 1, Value: greatest}})
		was := slices.Clone(backing)
		within := backing[1 : 1+len(x.l)]
		first, _ := Encode(within)
		second, _ := Encode(within)
		for i := range first[:cap(first)] {
			first[:cap(first)][i] ^= 255
		}
		if !slices.Equal(backing, was) || !bytes.Equal(second, x.b) {
			t.Errorf("%v: Encode changes its argument or its results share memory", x.l)
		}
	}
}

func TestBytesAreKept(t *testing.T) {
	for _, x := range examples() {
		backing := slices.Concat([]byte{255, 1}, x.b, []byte{255, 0, 255})
		was := slices.Clone(backing)
		b := backing[:2+len(x.b)]
		first, _, e := Decode(b, 2, totalOf(x.l))
		second, _, again := Decode(b, 2, totalOf(x.l))
		if e != api.OK || again != api.OK {
			t.Fatalf("%v: %v, %v", x.l, e, again)
		}
		for i := range first[:cap(first)] {
			first[:cap(first)][i] = api.Constant{Count: -1, Value: 77}
		}
		if !bytes.Equal(backing, was) || !slices.Equal(second, x.l) {
			t.Errorf("%v: Decode changes its argument or its results share memory", x.l)
		}
	}
}

func TestNilAndEmpty(t *testing.T) {
	for _, l := range [][]api.Constant{nil, {}} {
		checkEncode(t, l, []byte{0, 0, 0, 0}, api.OK)
	}
	for _, b := range [][]byte{nil, {}} {
		checkDecode(t, "no bytes", b, 0, 0, nil, 0, api.ErrTruncated)
		checkDecode(t, "no bytes", b, 0, 1, nil, 0, api.ErrTruncated)
		checkDecode(t, "no bytes", b, 0, -1, nil, 0, api.ErrRange)
		checkDecode(t, "no bytes", b, 1, 0, nil, 0, api.ErrRange)
	}
	checkDecode(t, "no segments", []byte{0, 0, 0, 0}, 0, 0, nil, 4, api.OK)
}
