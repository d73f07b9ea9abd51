package varint

import (
	"bytes"
	"math"
	"math/big"
	"math/rand"
	"slices"
	"testing"

	"tscodec/api"
)

const (
	least    = math.MinInt64
	greatest = math.MaxInt64
	full     = math.MaxUint64 // a word with all bits
)

// The greatest numbers of bytes of an encoding.
const (
	most     = 10
	mostWide = 37
)

// negativeZero is the one Wide that is not valid.
var negativeZero = api.Wide{Neg: true}

// plus and minus return a Wide with the words of an absolute value, the least significant one first.
func plus(mag ...uint64) api.Wide {
	var a api.Wide
	copy(a.Mag[:], mag)
	return a
}

func minus(mag ...uint64) api.Wide {
	a := plus(mag...)
	a.Neg = true
	return a
}

// times returns count bytes of one value, and then others.
func times(count int, value byte, others ...byte) []byte {
	return append(bytes.Repeat([]byte{value}, count), others...)
}

// encoding returns the groups of a number that is at least 0, by divisions of a number without bounds.
func encoding(x *big.Int) []byte {
	var out []byte
	rest, group := new(big.Int).Set(x), new(big.Int)
	for {
		rest.DivMod(rest, big.NewInt(128), group)
		if rest.Sign() == 0 {
			return append(out, byte(group.Int64()))
		}
		out = append(out, byte(group.Int64())+128)
	}
}

// signedCode returns 2 x, or -2 x - 1 for a negative x.
func signedCode(v int64) *big.Int {
	x := big.NewInt(v)
	x.Lsh(x, 1)
	if v < 0 {
		x.Neg(x)
		x.Sub(x, big.NewInt(1))
	}
	return x
}

// wideCode returns 2 times the absolute value of a valid Wide, plus 1 if it is negative.
func wideCode(a api.Wide) *big.Int {
	x := new(big.Int)
	for i := len(a.Mag) - 1; i >= 0; i-- {
		x.Lsh(x, 64)
		x.Add(x, new(big.Int).SetUint64(a.Mag[i]))
	}
	x.Lsh(x, 1)
	if a.Neg {
		x.Add(x, big.NewInt(1))
	}
	return x
}

// wideOfCode returns the Wide whose wideCode is x, and whether there is one.
func wideOfCode(x *big.Int) (api.Wide, bool) {
	a := api.Wide{Neg: x.Bit(0) == 1}
	rest, word := new(big.Int).Rsh(x, 1), new(big.Int).SetUint64(full)
	if rest.BitLen() > 256 || a.Neg && rest.Sign() == 0 {
		return api.Wide{}, false
	}
	for i := range a.Mag {
		a.Mag[i] = new(big.Int).And(rest, word).Uint64()
		rest.Rsh(rest, 64)
	}
	return a, true
}

// decode finds the number whose encoding begins at the index at of b as promises 5.2 and 5.4 say it: the number, the index behind it and the error, apart from a number that is too great.
func decode(b []byte, at, most int) (*big.Int, int, api.Errno) {
	if at < 0 || at > len(b) {
		return nil, 0, api.ErrRange
	}
	count := 0
	for at+count < len(b) && b[at+count] >= 128 {
		count++
	}
	if at+count == len(b) && count < most {
		return nil, 0, api.ErrTruncated
	}
	if count >= most || count > 0 && b[at+count] == 0 {
		return nil, 0, api.ErrForm
	}
	x := new(big.Int)
	for i := at + count; i >= at; i-- {
		x.Mul(x, big.NewInt(128))
		x.Add(x, big.NewInt(int64(b[i]%128)))
	}
	return x, at + count + 1, api.OK
}

// decodeNumber, decodeSigned and decodeWide say what Read, ReadSigned and ReadWide are to return.
func decodeNumber(b []byte, at int) (uint64, int, api.Errno) {
	x, end, e := decode(b, at, most)
	switch {
	case e != api.OK:
		return 0, 0, e
	case !x.IsUint64():
		return 0, 0, api.ErrForm
	}
	return x.Uint64(), end, api.OK
}

func decodeSigned(b []byte, at int) (int64, int, api.Errno) {
	v, end, e := decodeNumber(b, at)
	if v%2 == 1 {
		return -int64(v/2) - 1, end, e
	}
	return int64(v / 2), end, e
}

func decodeWide(b []byte, at int) (api.Wide, int, api.Errno) {
	x, end, e := decode(b, at, mostWide)
	if e != api.OK {
		return api.Wide{}, 0, e
	}
	a, ok := wideOfCode(x)
	if !ok {
		return api.Wide{}, 0, api.ErrForm
	}
	return a, end, api.OK
}

// values are numbers with all numbers of bits, those around them, and random ones.
func values() []uint64 {
	list := []uint64{0, 300, full, full - 1}
	for n := range 64 {
		list = append(list, 1<<n-1, 1<<n, 1<<n+1)
	}
	random := rand.New(rand.NewSource(5))
	for range 2000 {
		list = append(list, random.Uint64()>>random.Intn(64))
	}
	return list
}

// wides are Wides with all numbers of bits, those around them, and random ones, each with both signs.
func wides() []api.Wide {
	list := []api.Wide{plus(), plus(full, full, full, full), minus(full, full, full, full)}
	add := func(x *big.Int) {
		for range 2 {
			if a, ok := wideOfCode(x); ok {
				list = append(list, a)
			}
			x.Xor(x, big.NewInt(1))
		}
	}
	one := big.NewInt(1)
	for n := range uint(257) {
		for _, d := range []int64{-1, 0, 1} {
			x := new(big.Int).Lsh(one, n)
			x.Add(x, big.NewInt(d))
			add(x.Lsh(x, 1))
		}
	}
	random := rand.New(rand.NewSource(54))
	for range 1000 {
		add(new(big.Int).Rand(random, new(big.Int).Lsh(one, uint(1+random.Intn(257)))))
	}
	return list
}

// reader is Read, ReadSigned or ReadWide, or what it is compared with.
type reader[T any] func(b []byte, at int) (T, int, api.Errno)

// checkRead demands a result of a reader.
func checkRead[T comparable](t *testing.T, name string, read reader[T], b []byte, at int, want T, wantEnd int, wantErr api.Errno) {
	t.Helper()
	if v, end, e := read(b, at); v != want || end != wantEnd || e != wantErr {
		t.Errorf("%s(%x, %d) = %v, %d, %v, not %v, %d, %v", name, b, at, v, end, e, want, wantEnd, wantErr)
	}
}

// checkError demands an error with zero values beside it.
func checkError[T comparable](t *testing.T, name string, read reader[T], b []byte, at int, want api.Errno) {
	t.Helper()
	var zero T
	checkRead(t, name, read, b, at, zero, 0, want)
}

// bothErrors demands an error of Read and of ReadSigned.
func bothErrors(t *testing.T, b []byte, at int, want api.Errno) {
	t.Helper()
	checkError(t, "Read", Read, b, at, want)
	checkError(t, "ReadSigned", ReadSigned, b, at, want)
}

// checkAround demands that an encoding is read wherever it stands, and that no proper beginning of it is.
func checkAround[T comparable](t *testing.T, name string, read reader[T], text []byte, want T) {
	t.Helper()
	for _, before := range [][]byte{nil, {0}, {128, 255}} {
		at := len(before)
		for _, after := range [][]byte{nil, {0}, {1}, {127}, {128}, {255, 255}} {
			b := slices.Concat(before, text, after)
			checkRead(t, name, read, b, at, want, at+len(text), api.OK)
		}
		for i := range text {
			checkError(t, name, read, slices.Concat(before, text[:i]), at, api.ErrTruncated)
		}
	}
}

// checkAppend demands that bytes are laid behind those of b, in memory of the result's own.
func checkAppend(t *testing.T, name string, add func(b []byte) []byte, want []byte) {
	t.Helper()
	if got := add(nil); !bytes.Equal(got, want) {
		t.Errorf("%s appends %x, not %x", name, got, want)
	}
	memory := times(64, 9)
	got := add(memory[:3])
	if !bytes.Equal(got, append(times(3, 9), want...)) {
		t.Errorf("%s behind 3 bytes returns %x", name, got)
	}
	for i := range got {
		got[i] = 77
	}
	if !bytes.Equal(memory, times(64, 9)) {
		t.Errorf("%s changes its argument or the memory behind it, or keeps it: %x", name, memory)
	}
}

// Promise 5.1.

func TestAppend(t *testing.T) {
	for _, r := range []struct {
		v    uint64
		want []byte
	}{
		{0, []byte{0}},
		{1, []byte{1}},
		{127, []byte{0x7f}},
		{128, []byte{0x80, 0x01}},
		{255, []byte{0xff, 0x01}},
		{300, []byte{0xac, 0x02}},
		{1<<14 - 1, []byte{0xff, 0x7f}},
		{1 << 14, []byte{0x80, 0x80, 0x01}},
		{1 << 21, []byte{0x80, 0x80, 0x80, 0x01}},
		{1<<63 - 1, times(8, 0xff, 0x7f)},
		{1 << 63, times(9, 0x80, 0x01)},
		{full, times(9, 0xff, 0x01)},
	} {
		checkAppend(t, "Append", func(b []byte) []byte { return Append(b, r.v) }, r.want)
		if got := Size(r.v); got != len(r.want) {
			t.Errorf("Size(%d) = %d, not %d", r.v, got, len(r.want))
		}
	}
}

func TestAppendAll(t *testing.T) {
	for _, v := range values() {
		want := encoding(new(big.Int).SetUint64(v))
		checkAppend(t, "Append", func(b []byte) []byte { return Append(b, v) }, want)
		if got := Size(v); got != len(want) {
			t.Errorf("Size(%d) = %d, not %d", v, got, len(want))
		}
	}
}

// Promise 5.2.

func TestRead(t *testing.T) {
	for _, r := range []struct {
		b    []byte
		at   int
		want uint64
		end  int
	}{
		{[]byte{0}, 0, 0, 1},
		{[]byte{0, 0}, 0, 0, 1},
		{[]byte{0, 0}, 1, 0, 2},
		{[]byte{0x7f, 0x80}, 0, 127, 1},
		{[]byte{0xac, 0x02}, 0, 300, 2},
		{[]byte{0xac, 0x02}, 1, 2, 2},
		{[]byte{0x80, 0x80, 0x01, 0x05}, 0, 1 << 14, 3},
		{[]byte{0x80, 0x80, 0x01, 0x05}, 3, 5, 4},
		{times(8, 0x80, 0x01), 0, 1 << 56, 9},
		{times(8, 0xff, 0x7f), 0, 1<<63 - 1, 9},
		{times(9, 0x80, 0x01), 0, 1 << 63, 10},
		{times(9, 0xff, 0x01, 0xff), 0, full, 10},
		// The ten bytes count from the index on.
		{times(12, 0xff, 0x01), 3, full, 13},
	} {
		checkRead(t, "Read", Read, r.b, r.at, r.want, r.end, api.OK)
	}
	for _, v := range values() {
		checkAround(t, "Read", Read, encoding(new(big.Int).SetUint64(v)), v)
	}
}

func TestReadOutsideOfTheBytes(t *testing.T) {
	for _, b := range [][]byte{nil, {}, {1}, {0x80, 0x00}, {0x80}, times(10, 0xff), times(37, 0xff), make([]byte, 0, 5)} {
		for _, at := range []int{math.MinInt, -1000, -1, len(b) + 1, len(b) + 1000, math.MaxInt - 9, math.MaxInt} {
			bothErrors(t, b, at, api.ErrRange)
			checkError(t, "ReadWide", ReadWide, b, at, api.ErrRange)
		}
	}
}

func TestReadTruncated(t *testing.T) {
	for count := range most {
		for _, value := range []byte{0x80, 0xff} {
			bothErrors(t, times(count, value), 0, api.ErrTruncated)
			bothErrors(t, append([]byte{5, 0x80, 0}, times(count, value)...), 3, api.ErrTruncated)
		}
	}
	// What stands before the index or behind the length does not end it.
	memory := []byte{1, 0x80, 0x01}
	bothErrors(t, memory[:2], 1, api.ErrTruncated)
	bothErrors(t, memory[:1], 1, api.ErrTruncated)
	bothErrors(t, times(15, 0xff), 6, api.ErrTruncated)
	bothErrors(t, nil, 0, api.ErrTruncated)
}

func TestReadForm(t *testing.T) {
	for _, b := range [][]byte{
		// The last group is 0.
		{0x80, 0},
		{0xff, 0},
		{0x81, 0x80, 0},
		{0x80, 0, 0x01},
		times(8, 0xff, 0),
		times(9, 0xff, 0),
		times(9, 0x80, 0),
		// The number is too great.
		times(9, 0x80, 0x02),
		times(9, 0x80, 0x03),
		times(9, 0xff, 0x02),
		times(9, 0x80, 0x40),
		times(9, 0xff, 0x7f),
		// There is no last group among ten bytes.
		times(10, 0x80),
		times(10, 0xff),
		times(11, 0xff),
		times(10, 0x80, 0),
		times(10, 0x80, 1),
		times(11, 0x80, 1),
	} {
		bothErrors(t, b, 0, api.ErrForm)
		bothErrors(t, append([]byte{0x80}, b...), 1, api.ErrForm)
	}
	bothErrors(t, times(16, 0xff), 6, api.ErrForm)
}

// Promise 5.3.

func TestZigzag(t *testing.T) {
	for _, r := range []struct {
		v    int64
		want uint64
	}{
		{0, 0},
		{-1, 1},
		{1, 2},
		{-2, 3},
		{2, 4},
		{63, 126},
		{-64, 127},
		{64, 128},
		{-65, 129},
		{1 << 62, 1 << 63},
		{-1 << 62, 1<<63 - 1},
		{greatest, full - 1},
		{least + 1, full - 2},
		{least, full},
	} {
		if got := Zigzag(r.v); got != r.want {
			t.Errorf("Zigzag(%d) = %d, not %d", r.v, got, r.want)
		}
		if got := Unzigzag(r.want); got != r.v {
			t.Errorf("Unzigzag(%d) = %d, not %d", r.want, got, r.v)
		}
	}
	for _, code := range values() {
		v := int64(code)
		if got := Zigzag(v); signedCode(v).Cmp(new(big.Int).SetUint64(got)) != 0 {
			t.Errorf("Zigzag(%d) = %d", v, got)
		}
		if got := Unzigzag(Zigzag(v)); got != v {
			t.Errorf("Unzigzag(Zigzag(%d)) = %d", v, got)
		}
		if got := Zigzag(Unzigzag(code)); got != code {
			t.Errorf("Zigzag(Unzigzag(%d)) = %d", code, got)
		}
	}
}

func TestSigned(t *testing.T) {
	for _, r := range []struct {
		v    int64
		want []byte
	}{
		{0, []byte{0}},
		{-1, []byte{1}},
		{1, []byte{2}},
		{-64, []byte{0x7f}},
		{64, []byte{0x80, 0x01}},
		{150, []byte{0xac, 0x02}},
		{greatest, append([]byte{0xfe}, times(8, 0xff, 0x01)...)},
		{least, times(9, 0xff, 0x01)},
	} {
		checkAppend(t, "AppendSigned", func(b []byte) []byte { return AppendSigned(b, r.v) }, r.want)
		checkAround(t, "ReadSigned", ReadSigned, r.want, r.v)
	}
	for _, code := range values() {
		v := int64(code)
		want := encoding(signedCode(v))
		checkAppend(t, "AppendSigned", func(b []byte) []byte { return AppendSigned(b, v) }, want)
		checkAround(t, "ReadSigned", ReadSigned, want, v)
	}
}

// Promise 5.4.

func TestWide(t *testing.T) {
	for _, r := range []struct {
		a    api.Wide
		want []byte
	}{
		{plus(), []byte{0}},
		{plus(1), []byte{2}},
		{minus(1), []byte{3}},
		{plus(63), []byte{0x7e}},
		{minus(63), []byte{0x7f}},
		{plus(64), []byte{0x80, 0x01}},
		{minus(64), []byte{0x81, 0x01}},
		{plus(150), []byte{0xac, 0x02}},
		{minus(150), []byte{0xad, 0x02}},
		{plus(1 << 62), times(9, 0x80, 0x01)},
		{plus(1 << 63), times(9, 0x80, 0x02)},
		{plus(full), append([]byte{0xfe}, times(8, 0xff, 0x03)...)},
		{minus(full), times(9, 0xff, 0x03)},
		{plus(0, 1), times(9, 0x80, 0x04)},
		{minus(0, 1), append([]byte{0x81}, times(8, 0x80, 0x04)...)},
		{plus(0, 0, 0, 1<<63), times(36, 0x80, 0x10)},
		{plus(full, full, full, full), append([]byte{0xfe}, times(35, 0xff, 0x1f)...)},
		{minus(full, full, full, full), times(36, 0xff, 0x1f)},
	} {
		checkAppend(t, "AppendWide", func(b []byte) []byte { return AppendWide(b, r.a) }, r.want)
		checkAround(t, "ReadWide", ReadWide, r.want, r.a)
	}
}

func TestWideAll(t *testing.T) {
	for _, a := range wides() {
		want := encoding(wideCode(a))
		checkAppend(t, "AppendWide", func(b []byte) []byte { return AppendWide(b, a) }, want)
		checkAround(t, "ReadWide", ReadWide, want, a)
	}
}

func TestWideThatIsNotValid(t *testing.T) {
	checkAppend(t, "AppendWide", func(b []byte) []byte { return AppendWide(b, negativeZero) }, []byte{0})
}

func TestReadWideTruncated(t *testing.T) {
	for count := range mostWide {
		for _, value := range []byte{0x80, 0x81, 0xff} {
			checkError(t, "ReadWide", ReadWide, times(count, value), 0, api.ErrTruncated)
			checkError(t, "ReadWide", ReadWide, append([]byte{5, 1}, times(count, value)...), 2, api.ErrTruncated)
		}
	}
	memory := []byte{2, 0x80, 0x01}
	checkError(t, "ReadWide", ReadWide, memory[:2], 1, api.ErrTruncated)
	checkError(t, "ReadWide", ReadWide, times(42, 0xff), 6, api.ErrTruncated)
}

func TestReadWideForm(t *testing.T) {
	for _, b := range [][]byte{
		// The last group is 0.
		{0x80, 0},
		{0x81, 0},
		{0x80, 0x80, 0, 0x01},
		times(9, 0xff, 0),
		times(36, 0x80, 0),
		times(36, 0xff, 0),
		// The absolute value is too great.
		times(36, 0x80, 0x20),
		times(36, 0xff, 0x20),
		times(36, 0x80, 0x30),
		times(36, 0x80, 0x40),
		times(36, 0xff, 0x7f),
		// There is no last group among 37 bytes.
		times(37, 0x80),
		times(37, 0xff),
		times(38, 0xff),
		times(37, 0x80, 0),
		times(37, 0x80, 1),
		// A negative 0.
		{1},
		{1, 0},
		{1, 0x80},
	} {
		checkError(t, "ReadWide", ReadWide, b, 0, api.ErrForm)
		checkError(t, "ReadWide", ReadWide, append([]byte{0x80}, b...), 1, api.ErrForm)
	}
	checkError(t, "ReadWide", ReadWide, times(43, 0xff), 6, api.ErrForm)
}

// Promise 5.5.

// byteStrings calls f for all byte strings of at most two bytes, those of some bytes at the limits, and random ones that are long.
func byteStrings(f func(b []byte)) {
	f(nil)
	for i := range 256 {
		f([]byte{byte(i)})
		for k := range 256 {
			f([]byte{byte(i), byte(k)})
		}
	}
	for _, count := range []int{2, 7, 8, 9, 10, 35, 36, 37} {
		for _, value := range []byte{0x80, 0x81, 0xfe, 0xff} {
			for last := range 256 {
				f(times(count, value, byte(last)))
				f(append([]byte{0x81}, times(count-1, value, byte(last), 0)...))
			}
		}
	}
	random := rand.New(rand.NewSource(55))
	for range 20000 {
		b := make([]byte, random.Intn(45))
		for i := range b {
			b[i] = byte(random.Intn(128) + 128)
		}
		if end := len(b) - 1 - random.Intn(3); end >= 0 {
			b[end] = byte(random.Intn(128) >> random.Intn(7))
		}
		f(b)
	}
}

// checkReader demands the results that the promises say, that what is read is appended as the same bytes, and that the bytes remain as they are.
func checkReader[T comparable](t *testing.T, name string, read, want reader[T], add func(b []byte, v T) []byte, b []byte) {
	t.Helper()
	before := slices.Clone(b)
	wantV, wantEnd, wantErr := want(b, 0)
	checkRead(t, name, read, b, 0, wantV, wantEnd, wantErr)
	if v, end, e := read(b, 0); e == api.OK && !bytes.Equal(add(nil, v), b[:end]) {
		t.Errorf("%s(%x, 0) reads %v, which is appended as %x", name, b, v, add(nil, v))
	}
	if !bytes.Equal(b, before) {
		t.Errorf("%s changes %x to %x", name, before, b)
	}
}

func TestCanonical(t *testing.T) {
	byteStrings(func(b []byte) {
		checkReader(t, "Read", Read, decodeNumber, Append, b)
		checkReader(t, "ReadSigned", ReadSigned, decodeSigned, AppendSigned, b)
		checkReader(t, "ReadWide", ReadWide, decodeWide, AppendWide, b)
	})
}

func TestNumbersInARow(t *testing.T) {
	var b []byte
	for _, v := range values() {
		b = AppendWide(AppendSigned(Append(b, v), int64(v)), minus(v, 1))
	}
	at := 0
	for _, v := range values() {
		x, next, e := Read(b, at)
		y, behind, eSigned := ReadSigned(b, next)
		z, end, eWide := ReadWide(b, behind)
		if e != api.OK || eSigned != api.OK || eWide != api.OK || x != v || y != int64(v) || z != minus(v, 1) {
			t.Fatalf("at %d: %d %v, %d %v, %v %v, not %d", at, x, e, y, eSigned, z, eWide, v)
		}
		at = end
	}
	if at != len(b) {
		t.Errorf("reading ends at %d of %d bytes", at, len(b))
	}
}
