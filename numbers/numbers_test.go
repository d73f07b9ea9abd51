package numbers

import (
	"bytes"
	"math"
	"math/rand"
	"slices"
	"testing"

	"tscodec/api"
)

const top = math.MaxUint64

// groupsOf returns the groups of seven bits of a number, as chapter 5 says.
func groupsOf(v uint64) []byte {
	var out []byte
	for v >= 128 {
		out = append(out, byte(v%128)+128)
		v /= 128
	}
	return append(out, byte(v))
}

// plainOf returns the plain form of a list.
func plainOf(l []uint64) []byte {
	out := []byte{0}
	for _, v := range l {
		out = append(out, groupsOf(v)...)
	}
	return out
}

// widthOf returns the number of bits of the greatest number of a list.
func widthOf(l []uint64) int {
	width := 0
	for _, v := range l {
		for width < 64 && v>>width != 0 {
			width++
		}
	}
	return width
}

// packedOf returns the packed form of a list with any width that is enough for it, bit by bit.
func packedOf(l []uint64, width int) []byte {
	out := make([]byte, 2+(len(l)*width+7)/8)
	out[0], out[1] = 1, byte(width)
	for i, v := range l {
		for k := range width {
			bit := i*width + k
			out[2+bit/8] |= byte(v>>k&1) << (bit % 8)
		}
	}
	return out
}

// encoding returns what Encode is to return for a list that is not too long.
func encoding(l []uint64) []byte {
	plain, packed := plainOf(l), packedOf(l, widthOf(l))
	if len(packed) < len(plain) {
		return packed
	}
	return plain
}

// readGroups finds the number at the beginning of b as promise 5.2 says: the number, its bytes and the error.
func readGroups(b []byte) (uint64, int, api.Errno) {
	count := 0
	for count < len(b) && b[count] >= 128 {
		count++
	}
	switch {
	case count == len(b) && count < 10:
		return 0, 0, api.ErrTruncated
	case count >= 10, count > 0 && b[count] == 0, count == 9 && b[count] > 1:
		return 0, 0, api.ErrForm
	}
	v := uint64(0)
	for i := count; i >= 0; i-- {
		v = v*128 + uint64(b[i]%128)
	}
	return v, count + 1, api.OK
}

// readPlainOf finds n numbers in plain form behind the first byte of b: the list, the bytes of the form and the error.
func readPlainOf(b []byte, n int) ([]uint64, int, api.Errno) {
	var l []uint64
	at := 1
	for range n {
		v, size, e := readGroups(b[at:])
		if e != api.OK {
			return nil, 0, e
		}
		l = append(l, v)
		at += size
	}
	return l, at, api.OK
}

// readPackedOf finds n numbers in packed form behind the first byte of b: the list, the bytes of the form and the error.
func readPackedOf(b []byte, n int) ([]uint64, int, api.Errno) {
	if len(b) < 2 {
		return nil, 0, api.ErrTruncated
	}
	width := int(b[1])
	if width > 64 {
		return nil, 0, api.ErrForm
	}
	bits := 8 * (len(b) - 2)
	if bits < n*width {
		return nil, 0, api.ErrTruncated
	}
	l := make([]uint64, n)
	bit := 0
	for ; bit < n*width; bit++ {
		l[bit/width] |= uint64(b[2+bit/8]>>(bit%8)&1) << (bit % width)
	}
	for ; bit%8 != 0; bit++ {
		if b[2+bit/8]>>(bit%8)&1 != 0 {
			return nil, 0, api.ErrForm
		}
	}
	return l, 2 + bit/8, api.OK
}

// decoded says what Decode is to return, in the order of promise 9.2.
func decoded(b []byte, at, n int) ([]uint64, int, api.Errno) {
	if at < 0 || at > len(b) || n < 0 || n > api.MaxNumbers {
		return nil, 0, api.ErrRange
	}
	text := b[at:]
	if len(text) == 0 {
		return nil, 0, api.ErrTruncated
	}
	if text[0] > 1 {
		return nil, 0, api.ErrForm
	}
	read := readPlainOf
	if text[0] == 1 {
		read = readPackedOf
	}
	l, size, e := read(text, n)
	if e == api.OK && !bytes.Equal(encoding(l), text[:size]) {
		e = api.ErrForm
	}
	if e != api.OK {
		return nil, 0, e
	}
	return l, at + size, api.OK
}

// checkEncode demands the bytes of a list.
func checkEncode(t *testing.T, l []uint64, want []byte) {
	t.Helper()
	if got, e := Encode(l); e != api.OK || !bytes.Equal(got, want) {
		t.Errorf("Encode(%v) = %x, %v, not %x", l, got, e, want)
	}
}

// checkDecode demands a list, the index behind it and the error of bytes.
func checkDecode(t *testing.T, name string, b []byte, at, n int, want []uint64, wantEnd int, wantErr api.Errno) {
	t.Helper()
	l, end, e := Decode(b, at, n)
	if e != wantErr || end != wantEnd || !slices.Equal(l, want) {
		t.Errorf("%s: Decode(%x, %d, %d) = %v, %d, %v, not %v, %d, %v", name, b, at, n, l, end, e, want, wantEnd, wantErr)
	}
}

// checkError demands an error with zero values beside it.
func checkError(t *testing.T, name string, b []byte, at, n int, want api.Errno) {
	t.Helper()
	checkDecode(t, name, b, at, n, nil, 0, want)
}

// checkModel demands the result that promise 9.2 says.
func checkModel(t *testing.T, b []byte, at, n int) {
	t.Helper()
	want, end, e := decoded(b, at, n)
	checkDecode(t, "model", b, at, n, want, end, e)
}

// greatest returns the greatest number of a width.
func greatest(width int) uint64 {
	if width == 0 {
		return 0
	}
	return top >> (64 - width)
}

// randomList returns n random numbers of a width. About sparse of ten are 0 or 1, so that either form is the shorter one at times.
func randomList(random *rand.Rand, n, width, sparse int) []uint64 {
	l := make([]uint64, n)
	for i := range l {
		switch {
		case random.Intn(10) < sparse:
			l[i] = uint64(random.Intn(2)) & greatest(width)
		case random.Intn(8) == 0:
			l[i] = greatest(width)
		default:
			l[i] = random.Uint64() & greatest(width)
		}
	}
	return l
}

// example is a list with its encoding.
type example struct {
	l []uint64
	b []byte
}

// examples are lists whose encodings are written out.
func examples() []example {
	ones := func(n int) []uint64 { return slices.Repeat([]uint64{1}, n) }
	return []example{
		{nil, []byte{0}},
		{ones(9), []byte{1, 1, 0xff, 1}},
		{[]uint64{300}, []byte{0, 0xac, 2}},
		// One number: the packed form is shorter from 2^63 on only.
		{[]uint64{0}, []byte{0, 0}},
		{[]uint64{1}, []byte{0, 1}},
		{[]uint64{127}, []byte{0, 0x7f}},
		{[]uint64{128}, []byte{0, 0x80, 1}},
		{[]uint64{255}, []byte{0, 0xff, 1}},
		{[]uint64{1 << 56}, []byte{0, 0x80, 0x80, 0x80, 0x80, 0x80, 0x80, 0x80, 0x80, 1}},
		{[]uint64{1<<63 - 1}, []byte{0, 0xff, 0xff, 0xff, 0xff, 0xff, 0xff, 0xff, 0xff, 0x7f}},
		{[]uint64{1 << 63}, []byte{1, 64, 0, 0, 0, 0, 0, 0, 0, 0x80}},
		{[]uint64{top}, []byte{1, 64, 255, 255, 255, 255, 255, 255, 255, 255}},
		// Numbers without bits.
		{[]uint64{0, 0}, []byte{1, 0}},
		{make([]uint64, 500), []byte{1, 0}},
		// Two numbers: both forms have the same number of bytes, or the packed one is shorter.
		{ones(2), []byte{0, 1, 1}},
		{[]uint64{15, 1}, []byte{0, 15, 1}},
		{[]uint64{16, 1}, []byte{0, 16, 1}},
		{[]uint64{255, 128}, []byte{1, 8, 255, 128}},
		{[]uint64{255, 127}, []byte{0, 255, 1, 127}},
		{ones(3), []byte{1, 1, 7}},
		{[]uint64{4, 5, 6}, []byte{0, 4, 5, 6}},
		{[]uint64{5, 2, 7, 0}, []byte{1, 3, 0xd5, 1}},
		{[]uint64{128, 1, 1, 1}, []byte{0, 0x80, 1, 1, 1, 1}},
		{[]uint64{127, 127, 127, 127, 127, 127, 127}, []byte{0, 127, 127, 127, 127, 127, 127, 127}},
		{[]uint64{127, 127, 127, 127, 127, 127, 127, 127}, []byte{0, 127, 127, 127, 127, 127, 127, 127, 127}},
		{[]uint64{63, 63, 63, 63}, []byte{0, 63, 63, 63, 63}},
		{[]uint64{63, 63, 63, 63, 63}, []byte{0, 63, 63, 63, 63, 63}},
		{[]uint64{63, 63, 63, 63, 63, 0, 0, 32}, []byte{1, 6, 255, 255, 255, 0x3f, 0, 0x80}},
		{[]uint64{top, 0}, []byte{0, 255, 255, 255, 255, 255, 255, 255, 255, 255, 1, 0}},
	}
}

// Promise 9.1.

func TestBytesOfLists(t *testing.T) {
	for _, x := range examples() {
		checkEncode(t, x.l, x.b)
		if want := encoding(x.l); !bytes.Equal(want, x.b) {
			t.Errorf("%v: the test expects %x and %x", x.l, x.b, want)
		}
	}
}

func TestShorterForm(t *testing.T) {
	// For each width there are lists of both forms, and lists where both have the same number of bytes.
	random := rand.New(rand.NewSource(91))
	plain, packed, same := 0, 0, 0
	for width := range 65 {
		for n := range 40 {
			for sparse := range 11 {
				l := randomList(random, n, width, sparse)
				difference := len(plainOf(l)) - len(packedOf(l, widthOf(l)))
				switch {
				case difference < 0:
					plain++
				case difference > 0:
					packed++
				default:
					same++
				}
				checkEncode(t, l, encoding(l))
			}
		}
	}
	if plain < 1000 || packed < 1000 || same < 100 {
		t.Errorf("%d plain ones, %d packed ones and %d with the same number of bytes are too few", plain, packed, same)
	}
}

func TestMostNumbers(t *testing.T) {
	random := rand.New(rand.NewSource(92))
	for _, x := range []struct {
		l    []uint64
		form byte
	}{
		{make([]uint64, api.MaxNumbers), 1},
		{slices.Repeat([]uint64{top}, api.MaxNumbers), 1},
		{append(make([]uint64, api.MaxNumbers-1), top), 0},
		{randomList(random, api.MaxNumbers, 64, 9), 0},
		{randomList(random, api.MaxNumbers, 9, 0), 1},
		{randomList(random, api.MaxNumbers-1, 64, 5), 0},
	} {
		b, e := Encode(x.l)
		if e != api.OK || b[0] != x.form || !bytes.Equal(b, encoding(x.l)) {
			t.Errorf("%d bytes, %v, form %d", len(b), e, b[0])
		}
		l, end, e := Decode(b, 0, len(x.l))
		if e != api.OK || end != len(b) || !slices.Equal(l, x.l) {
			t.Errorf("%d numbers, %d, %v: the list is not given back", len(l), end, e)
		}
	}
}

func TestTooManyNumbers(t *testing.T) {
	for _, l := range [][]uint64{
		make([]uint64, api.MaxNumbers+1),
		make([]uint64, api.MaxNumbers+1000),
		slices.Repeat([]uint64{top}, api.MaxNumbers+1),
		append(make([]uint64, api.MaxNumbers), top),
	} {
		if b, e := Encode(l); e != api.ErrLimit || len(b) != 0 {
			t.Errorf("%d numbers: %d bytes, %v", len(l), len(b), e)
		}
	}
}

// Promise 9.2.

func TestDecode(t *testing.T) {
	for _, x := range examples() {
		for _, before := range [][]byte{nil, {0}, {1, 1}, {255, 0x80, 2}} {
			for _, after := range [][]byte{nil, {0}, {1}, {127}, {128}, {255, 255}} {
				b := slices.Concat(before, x.b, after)
				at := len(before)
				checkDecode(t, "example", b, at, len(x.l), x.l, at+len(x.b), api.OK)
			}
		}
	}
}

func TestNoLists(t *testing.T) {
	for _, b := range [][]byte{nil, {}, {0}, {1}, {1, 0}, {2}, {0, 1, 2}, make([]byte, 0, 9)} {
		for _, n := range []int{0, 1, 3, -1, api.MaxNumbers + 1, math.MaxInt} {
			for _, at := range []int{math.MinInt, -1000, -1, len(b) + 1, len(b) + 1000, math.MaxInt - 1, math.MaxInt} {
				checkError(t, "index", b, at, n, api.ErrRange)
			}
		}
		for at := range len(b) + 1 {
			for _, n := range []int{math.MinInt, -api.MaxNumbers, -1, api.MaxNumbers + 1, api.MaxNumbers + 1000, math.MaxInt} {
				checkError(t, "number", b, at, n, api.ErrRange)
			}
		}
		for _, n := range []int{0, 1, api.MaxNumbers} {
			checkError(t, "no byte", b, len(b), n, api.ErrTruncated)
		}
	}
	// What stands behind the length is not read.
	memory := []byte{0, 1, 0, 5}
	checkError(t, "memory behind", memory[:0], 0, 0, api.ErrTruncated)
	checkError(t, "memory behind", memory[:2], 0, 2, api.ErrTruncated)
	checkError(t, "memory behind", memory[:2], 1, 0, api.ErrTruncated)
}

func TestOtherForms(t *testing.T) {
	for form := 2; form < 256; form++ {
		for _, n := range []int{0, 1, 9, api.MaxNumbers} {
			checkError(t, "form", []byte{byte(form)}, 0, n, api.ErrForm)
			checkError(t, "form", []byte{0, byte(form), 1, 255, 1}, 1, n, api.ErrForm)
		}
	}
}

func TestPlainErrors(t *testing.T) {
	nines := slices.Repeat([]byte{0xff}, 9)
	for _, x := range []struct {
		name string
		b    []byte
		n    int
		want api.Errno
	}{
		{"no number", []byte{0}, 1, api.ErrTruncated},
		{"a number is missing", []byte{0, 5}, 2, api.ErrTruncated},
		{"a number is cut", []byte{0, 0x80}, 1, api.ErrTruncated},
		{"a long number is cut", slices.Concat([]byte{0}, nines), 1, api.ErrTruncated},
		{"the second number is cut", []byte{0, 5, 0x80}, 2, api.ErrTruncated},
		{"a group 0", []byte{0, 0x80, 0}, 1, api.ErrForm},
		{"a group 0 in the second number", []byte{0, 5, 0x80, 0}, 2, api.ErrForm},
		{"2^64", slices.Concat([]byte{0}, nines, []byte{2}), 1, api.ErrForm},
		{"no last group", slices.Concat([]byte{0}, nines, []byte{0xff}), 1, api.ErrForm},
		{"the first error is the form", []byte{0, 0x80, 0, 0x80}, 2, api.ErrForm},
		{"the first error is the form, then nothing", []byte{0, 0x80, 0}, 5, api.ErrForm},
		{"the first error is the end", slices.Concat([]byte{0, 5}, nines), 3, api.ErrTruncated},
		{"cut where packed is shorter", []byte{0, 1, 1, 1, 1, 1, 1, 1, 1}, 9, api.ErrTruncated},
		{"packed is shorter", []byte{0, 1, 1, 1, 1, 1, 1, 1, 1, 1}, 9, api.ErrForm},
		{"packed is shorter by a byte", []byte{0, 1, 1, 1}, 3, api.ErrForm},
		{"packed without bits is shorter", []byte{0, 0, 0}, 2, api.ErrForm},
		{"packed is shorter for one number", slices.Concat([]byte{0}, nines, []byte{1}), 1, api.ErrForm},
		{"the most numbers", []byte{0, 1, 2, 3}, api.MaxNumbers, api.ErrTruncated},
	} {
		checkError(t, x.name, x.b, 0, x.n, x.want)
		checkError(t, x.name, slices.Concat([]byte{1, 1}, x.b), 2, x.n, x.want)
	}
}

func TestPackedErrors(t *testing.T) {
	for _, x := range []struct {
		name string
		b    []byte
		n    int
		want api.Errno
	}{
		{"no width", []byte{1}, 0, api.ErrTruncated},
		{"no width", []byte{1}, 3, api.ErrTruncated},
		{"no width", []byte{1}, api.MaxNumbers, api.ErrTruncated},
		{"a width of 65", []byte{1, 65}, 3, api.ErrForm},
		{"a width of 65 without numbers", []byte{1, 65}, 0, api.ErrForm},
		{"a width of 255", []byte{1, 255, 1, 2, 3}, 1, api.ErrForm},
		{"no bytes", []byte{1, 64}, 1, api.ErrTruncated},
		{"no bytes", []byte{1, 1}, 1, api.ErrTruncated},
		{"too few bytes", []byte{1, 5, 1}, 3, api.ErrTruncated},
		{"too few bytes", []byte{1, 64, 1, 2, 3, 4, 5, 6, 7}, 1, api.ErrTruncated},
		{"too few bytes", []byte{1, 1, 0xff}, 9, api.ErrTruncated},
		{"too few bytes of the most numbers", slices.Concat([]byte{1, 1}, make([]byte, 8191)), api.MaxNumbers, api.ErrTruncated},
		{"a bit behind the last number", []byte{1, 1, 0xff, 3}, 9, api.ErrForm},
		{"the last bit behind the last number", []byte{1, 1, 0xff, 0x81}, 9, api.ErrForm},
		{"too wide", []byte{1, 2, 0x55, 0x55, 0x01}, 9, api.ErrForm},
		{"too wide for numbers without bits", []byte{1, 1, 0}, 2, api.ErrForm},
		{"too wide for many numbers without bits", slices.Concat([]byte{1, 64}, make([]byte, 800)), 100, api.ErrForm},
		{"no numbers", []byte{1, 0}, 0, api.ErrForm},
		{"no numbers with a width", []byte{1, 64}, 0, api.ErrForm},
		{"one number without bits", []byte{1, 0}, 1, api.ErrForm},
		{"plain has the same number of bytes", []byte{1, 1, 3}, 2, api.ErrForm},
		{"plain is shorter", []byte{1, 8, 0xff, 0x01, 0x01}, 3, api.ErrForm},
	} {
		checkError(t, x.name, x.b, 0, x.n, x.want)
		checkError(t, x.name, slices.Concat([]byte{0, 0}, x.b), 2, x.n, x.want)
	}
}

func TestOtherEncodingsOfLists(t *testing.T) {
	// The other form, and the packed one with a width that is more than enough, are errors.
	random := rand.New(rand.NewSource(93))
	for range 3000 {
		l := randomList(random, random.Intn(20), random.Intn(65), random.Intn(11))
		want := encoding(l)
		others := [][]byte{plainOf(l)}
		for width := widthOf(l); width <= 64; width++ {
			others = append(others, packedOf(l, width))
		}
		for _, other := range others {
			if bytes.Equal(other, want) {
				checkDecode(t, "the encoding", other, 0, len(l), l, len(other), api.OK)
			} else {
				checkError(t, "another encoding", other, 0, len(l), api.ErrForm)
			}
		}
	}
}

func TestBeginnings(t *testing.T) {
	random := rand.New(rand.NewSource(94))
	for range 2000 {
		l := randomList(random, random.Intn(20), random.Intn(65), random.Intn(11))
		b := encoding(l)
		for end := range b {
			checkError(t, "a beginning", b[:end], 0, len(l), api.ErrTruncated)
		}
	}
}

func TestShortByteStrings(t *testing.T) {
	numbers := []int{0, 1, 2, 3, 4, 8, 9, 17}
	for _, n := range numbers {
		checkModel(t, nil, 0, n)
		for i := range 256 {
			checkModel(t, []byte{byte(i)}, 0, n)
			for k := range 256 {
				checkModel(t, []byte{byte(i), byte(k)}, 0, n)
				for form := range 3 {
					checkModel(t, []byte{byte(form), byte(i), byte(k)}, 0, n)
				}
			}
		}
	}
}

func TestBentEncodings(t *testing.T) {
	random := rand.New(rand.NewSource(95))
	for range 20000 {
		l := randomList(random, random.Intn(12), random.Intn(65), random.Intn(11))
		b := slices.Concat(encoding(l), []byte{byte(random.Intn(256)), 0, 1})
		b[random.Intn(len(b))] ^= 1 << random.Intn(8)
		checkModel(t, b, 0, len(l))
		checkModel(t, b, random.Intn(len(b)), random.Intn(4))
		checkModel(t, b, 0, len(l)+random.Intn(5)-2)
	}
}

// Promise 9.3.

func TestThereAndBack(t *testing.T) {
	random := rand.New(rand.NewSource(96))
	for range 5000 {
		l := randomList(random, random.Intn(60), random.Intn(65), random.Intn(11))
		b, e := Encode(l)
		if e != api.OK {
			t.Fatalf("Encode(%v): %v", l, e)
		}
		checkDecode(t, "there and back", b, 0, len(l), l, len(b), api.OK)
		if most := len(plainOf(l)); len(b) > most {
			t.Errorf("Encode(%v) has %d bytes, more than %d", l, len(b), most)
		}
	}
}

// everyList calls do with every list of n of the values.
func everyList(values []uint64, n int, do func(l []uint64)) {
	if n == 0 {
		do(nil)
		return
	}
	everyList(values, n-1, func(l []uint64) {
		for _, v := range values {
			do(append(slices.Clone(l), v))
		}
	})
}

func TestOneEncodingForEachList(t *testing.T) {
	values := []uint64{0, 1, 2, 127, 128, 255, 300, 1 << 56, top}
	for n := range 5 {
		lists := map[string]bool{}
		everyList(values, n, func(l []uint64) {
			b, e := Encode(l)
			if e != api.OK || lists[string(b)] {
				t.Errorf("Encode(%v) = %x, %v: the encoding of another list", l, b, e)
			}
			lists[string(b)] = true
			checkDecode(t, "every list", b, 0, n, l, len(b), api.OK)
		})
	}
}

func TestListsInARow(t *testing.T) {
	random := rand.New(rand.NewSource(97))
	var lists [][]uint64
	var b []byte
	for range 300 {
		l := randomList(random, random.Intn(9), random.Intn(65), random.Intn(11))
		text, _ := Encode(l)
		lists = append(lists, l)
		b = append(b, text...)
	}
	at := 0
	for _, want := range lists {
		l, end, e := Decode(b, at, len(want))
		if e != api.OK || !slices.Equal(l, want) {
			t.Fatalf("at %d: %v, %v, not %v", at, l, e, want)
		}
		at = end
	}
	if at != len(b) {
		t.Errorf("reading ends at %d of %d bytes", at, len(b))
	}
}

func FuzzDecode(f *testing.F) {
	f.Add([]byte{0}, 0, 0)
	f.Add([]byte{1, 1, 0xff, 1}, 0, 9)
	f.Add([]byte{9, 0, 0xac, 2}, 1, 1)
	f.Add([]byte{1, 65}, 0, 3)
	f.Add([]byte{1, 0}, -1, api.MaxNumbers)
	f.Fuzz(func(t *testing.T, b []byte, at, n int) {
		l, end, e := Decode(b, at, n)
		want, wantEnd, wantErr := decoded(b, at, n)
		if e != wantErr || end != wantEnd || !slices.Equal(l, want) {
			t.Fatalf("%v, %d, %v, not %v, %d, %v", l, end, e, want, wantEnd, wantErr)
		}
		if e != api.OK {
			return
		}
		if text, again := Encode(l); again != api.OK || !bytes.Equal(text, b[at:end]) {
			t.Fatalf("%x, %v, not %x", text, again, b[at:end])
		}
	})
}

// Rules 2 to 4.

// bothForms are lists of which Encode returns the plain and the packed form.
func bothForms() [][]uint64 {
	return [][]uint64{{0}, {300, 1, 2}, {0, 0, 0}, slices.Repeat([]uint64{200}, 40), {top, 1, 0}, {top, top}}
}

func TestListsAreKept(t *testing.T) {
	for _, l := range bothForms() {
		backing := slices.Concat([]uint64{7, top}, l, []uint64{8, 9, top})
		was := slices.Clone(backing)
		within := backing[2 : 2+len(l)]
		first, _ := Encode(within)
		second, _ := Encode(within)
		for i := range first[:cap(first)] {
			first[:cap(first)][i] ^= 255
		}
		if !slices.Equal(backing, was) || !bytes.Equal(second, encoding(l)) {
			t.Errorf("%v: Encode changes its argument or its results share memory", l)
		}
	}
}

func TestBytesAreKept(t *testing.T) {
	for _, l := range bothForms() {
		text := encoding(l)
		backing := slices.Concat([]byte{255, 1}, text, []byte{255, 0, 255})
		was := slices.Clone(backing)
		b := backing[:2+len(text)]
		first, _, e := Decode(b, 2, len(l))
		second, _, again := Decode(b, 2, len(l))
		if e != api.OK || again != api.OK {
			t.Fatalf("%v: %v, %v", l, e, again)
		}
		for i := range first[:cap(first)] {
			first[:cap(first)][i] ^= top
		}
		if !bytes.Equal(backing, was) || !slices.Equal(second, l) {
			t.Errorf("%v: Decode changes its argument or its results share memory", l)
		}
	}
}

func TestNilAndEmpty(t *testing.T) {
	checkEncode(t, nil, []byte{0})
	checkEncode(t, []uint64{}, []byte{0})
	for _, n := range []int{-1, 0, 1} {
		for _, at := range []int{-1, 0, 1} {
			first, end, e := Decode(nil, at, n)
			second, other, again := Decode([]byte{}, at, n)
			if e != again || end != other || !slices.Equal(first, second) {
				t.Errorf("no bytes at %d to %d numbers: %v, %d, %v and %v, %d, %v", at, n, first, end, e, second, other, again)
			}
		}
	}
}
