package bitpack

import (
	"bytes"
	"math"
	"math/big"
	"math/rand"
	"slices"
	"testing"

	"tscodec/api"
)

const top = math.MaxUint64

// packed returns what Pack is to return: the numbers as the digits of one large number, written with the least significant byte first.
func packed(l []uint64, width int) []byte {
	all := new(big.Int)
	for i := len(l) - 1; i >= 0; i-- {
		all.Lsh(all, uint(width))
		all.Or(all, new(big.Int).SetUint64(l[i]))
	}
	size := len(l) * width / 8
	if len(l)*width%8 > 0 {
		size++
	}
	b := all.FillBytes(make([]byte, size))
	slices.Reverse(b)
	return b
}

// greatest returns the greatest number of a width.
func greatest(width int) uint64 {
	if width == 0 {
		return 0
	}
	return top >> (64 - width)
}

// randomList returns n random numbers of a width, the greatest one and 0 among them.
func randomList(random *rand.Rand, n, width int) []uint64 {
	l := make([]uint64, n)
	for i := range l {
		switch random.Intn(8) {
		case 0:
			l[i] = greatest(width)
		case 1:
			l[i] = 0
		default:
			l[i] = random.Uint64() & greatest(width)
		}
	}
	return l
}

// checkPack demands the bytes of a list, and the list of the bytes.
func checkPack(t *testing.T, l []uint64, width int, want []byte) {
	t.Helper()
	got, ok := Pack(l, width)
	if !ok || !bytes.Equal(got, want) {
		t.Errorf("Pack of %d numbers of %d bits = %x, %t, not %x", len(l), width, got, ok, want)
	}
	back, ok := Unpack(want, len(l), width)
	if !ok || !slices.Equal(back, l) {
		t.Errorf("Unpack of %d numbers of %d bits = %v, %t, not %v", len(l), width, back, ok, l)
	}
}

// checkNoPack demands that a list is not packed.
func checkNoPack(t *testing.T, name string, l []uint64, width int) {
	t.Helper()
	if got, ok := Pack(l, width); ok || len(got) != 0 {
		t.Errorf("%s: Pack of %d numbers of %d bits = %d bytes, %t, not none and false", name, len(l), width, len(got), ok)
	}
}

// checkNoUnpack demands that bytes are not unpacked.
func checkNoUnpack(t *testing.T, name string, b []byte, n, width int) {
	t.Helper()
	if got, ok := Unpack(b, n, width); ok || len(got) != 0 {
		t.Errorf("%s: Unpack of %d bytes to %d numbers of %d bits = %d numbers, %t, not none and false", name, len(b), n, width, len(got), ok)
	}
}

// examples are lists whose bytes are written out.
func examples() []struct {
	l     []uint64
	width int
	b     []byte
} {
	return []struct {
		l     []uint64
		width int
		b     []byte
	}{
		{[]uint64{5, 2, 7}, 3, []byte{0xd5, 0x01}},
		{nil, 0, nil},
		{[]uint64{}, 7, []byte{}},
		{nil, 64, nil},
		{[]uint64{0, 0, 0}, 0, nil},
		{[]uint64{0}, 1, []byte{0}},
		{[]uint64{1}, 1, []byte{1}},
		{[]uint64{1, 0, 0, 0, 0, 0, 0, 1}, 1, []byte{0x81}},
		{[]uint64{0, 1, 0, 0, 0, 0, 0, 0, 1}, 1, []byte{0x02, 0x01}},
		{[]uint64{3, 0, 1, 2}, 2, []byte{0x93}},
		{[]uint64{1, 2, 15}, 4, []byte{0x21, 0x0f}},
		{[]uint64{0, 16}, 5, []byte{0x00, 0x02}},
		{[]uint64{127, 0, 1}, 7, []byte{0x7f, 0x40, 0x00}},
		{[]uint64{0, 255, 16}, 8, []byte{0x00, 0xff, 0x10}},
		{[]uint64{1, 511}, 9, []byte{0x01, 0xfe, 0x03}},
		{[]uint64{0xabc, 0x123}, 12, []byte{0xbc, 0x3a, 0x12}},
		{[]uint64{0x1234, 0}, 16, []byte{0x34, 0x12, 0x00, 0x00}},
		{[]uint64{1 << 62, 1}, 63, []byte{0, 0, 0, 0, 0, 0, 0, 0xc0, 0, 0, 0, 0, 0, 0, 0, 0}},
		{[]uint64{0x0807060504030201, top}, 64, []byte{1, 2, 3, 4, 5, 6, 7, 8, 255, 255, 255, 255, 255, 255, 255, 255}},
	}
}

// Promise 8.1.

func TestWidth(t *testing.T) {
	for _, r := range []struct {
		l    []uint64
		want int
	}{
		{nil, 0},
		{[]uint64{}, 0},
		{[]uint64{0}, 0},
		{[]uint64{0, 0, 0}, 0},
		{[]uint64{1}, 1},
		{[]uint64{2}, 2},
		{[]uint64{3, 0}, 2},
		{[]uint64{4, 3}, 3},
		{[]uint64{3, 4}, 3},
		{[]uint64{1, 7, 2}, 3},
		{[]uint64{8, 7}, 4},
		{[]uint64{255}, 8},
		{[]uint64{256}, 9},
		{[]uint64{1 << 31}, 32},
		{[]uint64{1<<32 - 1}, 32},
		{[]uint64{1 << 32}, 33},
		{[]uint64{math.MaxInt64}, 63},
		{[]uint64{0, 1 << 63, 5}, 64},
		{[]uint64{top, top}, 64},
	} {
		if got := Width(r.l); got != r.want {
			t.Errorf("Width(%v) = %d, not %d", r.l, got, r.want)
		}
	}
}

func TestWidthIsLeast(t *testing.T) {
	random := rand.New(rand.NewSource(81))
	for range 2000 {
		l := randomList(random, random.Intn(6), random.Intn(65))
		w := Width(l)
		if w < 0 || w > 64 {
			t.Fatalf("Width(%v) = %d", l, w)
		}
		fits := func(width int) bool {
			return !slices.ContainsFunc(l, func(v uint64) bool { return v > greatest(width) })
		}
		if !fits(w) || w > 0 && fits(w-1) {
			t.Errorf("Width(%v) = %d is not the least", l, w)
		}
	}
}

func TestWidthOfManyNumbers(t *testing.T) {
	// Width has no greatest number of elements.
	l := make([]uint64, api.MaxNumbers+2)
	if got := Width(l); got != 0 {
		t.Errorf("Width = %d, not 0", got)
	}
	l[len(l)-1] = 9
	if got := Width(l); got != 4 {
		t.Errorf("Width = %d, not 4", got)
	}
}

// Promise 8.2.

func TestBytes(t *testing.T) {
	for _, r := range []struct{ n, width, want int }{
		{0, 0, 0},
		{0, 1, 0},
		{0, 64, 0},
		{1, 0, 0},
		{api.MaxNumbers, 0, 0},
		{1, 1, 1},
		{7, 1, 1},
		{8, 1, 1},
		{9, 1, 2},
		{3, 3, 2},
		{1, 8, 1},
		{1, 9, 2},
		{5, 13, 9},
		{1, 63, 8},
		{1, 64, 8},
		{9, 63, 71},
		{api.MaxNumbers, 1, 8192},
		{api.MaxNumbers - 1, 1, 8192},
		{api.MaxNumbers - 8, 1, 8191},
		{api.MaxNumbers, 63, 516096},
		{api.MaxNumbers, 64, 524288},
		{api.MaxNumbers + 1, 64, -1},
		{api.MaxNumbers + 1, 0, -1},
		{api.MaxNumbers, 65, -1},
		{0, 65, -1},
		{0, -1, -1},
		{-1, 0, -1},
		{-1, 64, -1},
		{-8, -8, -1},
		{1, 1 << 40, -1},
		{1 << 40, 1, -1},
		{math.MaxInt, math.MaxInt, -1},
		{math.MaxInt, 0, -1},
		{0, math.MaxInt, -1},
		{math.MinInt, math.MinInt, -1},
		{math.MinInt, 0, -1},
		{0, math.MinInt, -1},
	} {
		if got := Bytes(r.n, r.width); got != r.want {
			t.Errorf("Bytes(%d, %d) = %d, not %d", r.n, r.width, got, r.want)
		}
	}
}

func TestBytesRoundsUp(t *testing.T) {
	for n := range 70 {
		for width := range 65 {
			got := Bytes(n, width)
			if 8*got < n*width || 8*got >= n*width+8 {
				t.Errorf("Bytes(%d, %d) = %d", n, width, got)
			}
		}
	}
}

// Promise 8.3.

func TestBytesOfLists(t *testing.T) {
	for _, r := range examples() {
		checkPack(t, r.l, r.width, r.b)
	}
}

func TestEveryWidth(t *testing.T) {
	random := rand.New(rand.NewSource(83))
	for width := range 65 {
		for n := range 40 {
			l := randomList(random, n, width)
			checkPack(t, l, width, packed(l, width))
		}
	}
}

func TestEveryBit(t *testing.T) {
	// One bit of one number is one bit of the bytes.
	const n = 9
	for width := 1; width <= 64; width++ {
		for bit := range n * width {
			l := make([]uint64, n)
			l[bit/width] = 1 << (bit % width)
			want := make([]byte, Bytes(n, width))
			want[bit/8] = 1 << (bit % 8)
			checkPack(t, l, width, want)
		}
	}
}

func TestGreatestNumbers(t *testing.T) {
	for width := 1; width <= 64; width++ {
		for _, n := range []int{1, 3, 8, 11} {
			l := slices.Repeat([]uint64{greatest(width)}, n)
			want := bytes.Repeat([]byte{255}, Bytes(n, width))
			if rest := n * width % 8; rest > 0 {
				want[len(want)-1] = byte(1<<rest - 1)
			}
			checkPack(t, l, width, want)
		}
	}
}

func TestMostNumbers(t *testing.T) {
	random := rand.New(rand.NewSource(84))
	for _, width := range []int{0, 1, 7, 64} {
		l := randomList(random, api.MaxNumbers, width)
		b, ok := Pack(l, width)
		if !ok || len(b) != api.MaxNumbers*width/8 {
			t.Fatalf("%d bits: %d bytes, %t", width, len(b), ok)
		}
		back, ok := Unpack(b, api.MaxNumbers, width)
		if !ok || !slices.Equal(back, l) {
			t.Errorf("%d bits: the numbers are not given back", width)
		}
		if width == 1 && !bytes.Equal(b, packed(l, width)) {
			t.Error("the bytes of many bits differ")
		}
	}
}

func TestNotPacked(t *testing.T) {
	for width := range 64 {
		over := greatest(width) + 1
		checkNoPack(t, "2^width", []uint64{over}, width)
		checkNoPack(t, "2^width at the end", []uint64{0, greatest(width), over}, width)
		checkNoPack(t, "2^width at the beginning", []uint64{over, 0}, width)
		checkNoPack(t, "the greatest number", []uint64{0, top, 0}, width)
		checkNoPack(t, "the greatest bit", []uint64{1 << 63}, width)
	}
	for _, width := range []int{-1, -8, -64, 65, 128, 1 << 40, math.MaxInt, math.MinInt} {
		checkNoPack(t, "width", nil, width)
		checkNoPack(t, "width", []uint64{0}, width)
		checkNoPack(t, "width", []uint64{1, top}, width)
	}
	for _, width := range []int{0, 1, 64, 65, -1} {
		checkNoPack(t, "too many", make([]uint64, api.MaxNumbers+1), width)
	}
}

// Promise 8.4.

func TestNotUnpacked(t *testing.T) {
	checkNoUnpack(t, "example", []byte{0xd5, 0x03}, 3, 3)
	for _, r := range examples() {
		checkNoUnpack(t, "a byte more", append(slices.Clone(r.b), 0), len(r.l), r.width)
		checkNoUnpack(t, "eight bytes more", append(slices.Clone(r.b), make([]byte, 8)...), len(r.l), r.width)
		for end := range r.b {
			checkNoUnpack(t, "too few bytes", r.b[:end], len(r.l), r.width)
		}
	}
	for _, n := range []int{-1, -8, api.MaxNumbers + 1, math.MaxInt, math.MinInt} {
		for _, width := range []int{-1, 0, 1, 8, 64, 65, math.MaxInt, math.MinInt} {
			checkNoUnpack(t, "n", nil, n, width)
			checkNoUnpack(t, "n", []byte{0}, n, width)
		}
	}
	for _, width := range []int{-1, -8, 65, 1 << 40, math.MaxInt, math.MinInt} {
		for _, n := range []int{0, 1, 8, api.MaxNumbers} {
			checkNoUnpack(t, "width", nil, n, width)
			checkNoUnpack(t, "width", []byte{0}, n, width)
		}
	}
	checkNoUnpack(t, "too many numbers", make([]byte, 8*(api.MaxNumbers+1)), api.MaxNumbers+1, 64)
	checkNoUnpack(t, "too wide", make([]byte, 65), 8, 65)
}

func TestBitsBehind(t *testing.T) {
	random := rand.New(rand.NewSource(85))
	for width := 1; width <= 64; width++ {
		for n := 1; n < 20; n++ {
			b := packed(randomList(random, n, width), width)
			for bit := n * width; bit < 8*len(b); bit++ {
				bent := slices.Clone(b)
				bent[bit/8] |= 1 << (bit % 8)
				checkNoUnpack(t, "a bit behind the last number", bent, n, width)
			}
		}
	}
}

// Promise 8.5.

// everyList calls do with every list of n numbers of a width.
func everyList(n, width int, do func(l []uint64)) {
	for code := range 1 << (n * width) {
		l := make([]uint64, n)
		for i := range l {
			l[i] = uint64(code) >> (i * width) & greatest(width)
		}
		do(l)
	}
}

func TestPairsOfListsAndBytes(t *testing.T) {
	// Every list is the list of its bytes, and all other byte strings are refused.
	for n := range 12 {
		for width := range 12 {
			if n*width > 11 {
				continue
			}
			lists := map[string][]uint64{}
			everyList(n, width, func(l []uint64) {
				b, ok := Pack(l, width)
				if !ok {
					t.Fatalf("Pack(%v, %d) fails", l, width)
				}
				lists[string(b)] = l
			})
			if len(lists) != 1<<(n*width) {
				t.Fatalf("%d numbers of %d bits: %d byte strings", n, width, len(lists))
			}
			for size := range 3 {
				for code := range 1 << (8 * size) {
					b := []byte{byte(code), byte(code >> 8)}[:size]
					want, known := lists[string(b)]
					got, ok := Unpack(b, n, width)
					if ok != known || !slices.Equal(got, want) {
						t.Errorf("Unpack(%x, %d, %d) = %v, %t, not %v, %t", b, n, width, got, ok, want, known)
					}
				}
			}
		}
	}
}

func TestThereAndBack(t *testing.T) {
	random := rand.New(rand.NewSource(86))
	for range 5000 {
		n, width := random.Intn(30), random.Intn(65)
		l := randomList(random, n, width)
		wider := min(64, Width(l)+random.Intn(3))
		checkPack(t, l, wider, packed(l, wider))
	}
}

func FuzzUnpack(f *testing.F) {
	f.Add([]byte{0xd5, 0x01}, 3, 3)
	f.Add([]byte{0xd5, 0x03}, 3, 3)
	f.Add([]byte{}, 0, 64)
	f.Add([]byte{1, 2, 3, 4, 5, 6, 7, 8}, 1, 64)
	f.Add([]byte{1}, -1, 65)
	f.Fuzz(func(t *testing.T, b []byte, n, width int) {
		l, ok := Unpack(b, n, width)
		if !ok {
			if len(l) != 0 {
				t.Fatal("numbers together with false")
			}
			return
		}
		if len(l) != n || Bytes(n, width) != len(b) || Width(l) > width {
			t.Fatalf("%d numbers of %d bits", len(l), Width(l))
		}
		if back, ok := Pack(l, width); !ok || !bytes.Equal(back, b) {
			t.Fatalf("%x, %t, not %x", back, ok, b)
		}
	})
}

// Rules 2 to 4.

func TestArgumentsAreKept(t *testing.T) {
	random := rand.New(rand.NewSource(87))
	for _, width := range []int{0, 1, 5, 8, 13, 64} {
		backing := randomList(random, 20, width)
		was := slices.Clone(backing)
		l := backing[3:10]
		Width(l)
		first, _ := Pack(l, width)
		second, _ := Pack(l, width)
		if !slices.Equal(backing, was) {
			t.Errorf("%d bits: Pack changes its argument", width)
		}
		for _, b := range [][]byte{first[:cap(first)], first[:len(first)]} {
			for i := range b {
				b[i] ^= 255
			}
		}
		if !slices.Equal(backing, was) || !bytes.Equal(second, packed(l, width)) {
			t.Errorf("%d bits: results of Pack share memory", width)
		}
		checkUnpackKeeps(t, second, len(l), width)
	}
}

// checkUnpackKeeps demands that Unpack leaves the memory around b alone and that its results are apart.
func checkUnpackKeeps(t *testing.T, b []byte, n, width int) {
	t.Helper()
	backing := slices.Concat([]byte{255, 255}, b, []byte{255, 255, 255})
	was := slices.Clone(backing)
	within := backing[2 : 2+len(b)]
	first, ok := Unpack(within, n, width)
	second, again := Unpack(within, n, width)
	if !ok || !again || !slices.Equal(first, second) {
		t.Fatalf("%d bits: %v, %t and %v, %t", width, first, ok, second, again)
	}
	want := slices.Clone(second)
	whole := first[:cap(first)]
	for i := range whole {
		whole[i] = ^whole[i]
	}
	if !bytes.Equal(backing, was) || !slices.Equal(second, want) {
		t.Errorf("%d bits: Unpack changes its argument or shares memory", width)
	}
}

func TestNilAndEmpty(t *testing.T) {
	if Width(nil) != Width([]uint64{}) {
		t.Error("Width")
	}
	for _, width := range []int{-1, 0, 1, 64, 65} {
		first, ok := Pack(nil, width)
		second, again := Pack([]uint64{}, width)
		if ok != again || len(first) != 0 || len(second) != 0 {
			t.Errorf("Pack of no numbers of %d bits: %x, %t and %x, %t", width, first, ok, second, again)
		}
		for _, n := range []int{-1, 0, 1, 5} {
			first, ok := Unpack(nil, n, width)
			second, again := Unpack([]byte{}, n, width)
			if ok != again || !slices.Equal(first, second) {
				t.Errorf("Unpack of no bytes to %d numbers of %d bits: %v, %t and %v, %t", n, width, first, ok, second, again)
			}
		}
	}
}
