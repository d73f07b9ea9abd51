package crc32c

import (
	"bytes"
	"encoding/binary"
	"hash/crc32"
	"math/bits"
	"math/rand"
	"slices"
	"testing"
)

const full = 0xffffffff // a checksum with all bits

// times returns count bytes of one value.
func times(count int, value byte) []byte {
	return bytes.Repeat([]byte{value}, count)
}

// rising returns count bytes of which each is greater by one than the one before it.
func rising(count int) []byte {
	b := make([]byte, count)
	for i := range b {
		b[i] = byte(i)
	}
	return b
}

// randomBytes returns count random bytes.
func randomBytes(random *rand.Rand, count int) []byte {
	b := make([]byte, count)
	for i := range b {
		b[i] = byte(random.Uint32())
	}
	return b
}

// starts are checksums to continue.
func starts() []uint32 {
	return []uint32{0, 1, 2, 0x80, 0xff, 0x100, 0x12345678, 0x7fffffff, 0x80000000, polynomial, full - 1, full}
}

// remainder divides the polynomial of some bits by the one of CRC-32C, both with the greatest power first, as in a division on paper.
func remainder(dividend uint64) uint32 {
	const divisor = 0x11edc6f41
	for shift := 63 - 32; shift >= 0; shift-- {
		if dividend>>(shift+32)%2 == 1 {
			dividend ^= divisor << shift
		}
	}
	return uint32(dividend)
}

// update says what Update is to return, without a table: it divides a bit after the other.
func update(crc uint32, b []byte) uint32 {
	crc ^= full
	for _, value := range b {
		crc ^= uint32(value)
		for range 8 {
			if crc%2 == 1 {
				crc = crc/2 ^ 0x82f63b78
			} else {
				crc /= 2
			}
		}
	}
	return crc ^ full
}

// Promise 6.1.

func TestTable(t *testing.T) {
	table := Table()
	for _, r := range []struct {
		i    int
		want uint32
	}{
		{0, 0},
		{1, 0xf26b8303},
		{2, 0xe13b70f7},
		{3, 0x1350f3f4},
		{4, 0xc79a971f},
		{127, 0x2f8b6829},
		{128, 0x82f63b78},
		{255, 0xad7d5351},
	} {
		if got := table[r.i]; got != r.want {
			t.Errorf("element %d = %#x, not %#x", r.i, got, r.want)
		}
	}
}

func TestTableAll(t *testing.T) {
	library := crc32.MakeTable(crc32.Castagnoli)
	for i, got := range Table() {
		if want := bits.Reverse32(remainder(uint64(bits.Reverse8(uint8(i))) << 32)); got != want {
			t.Errorf("element %d = %#x, not %#x", i, got, want)
		}
		if got != library[i] {
			t.Errorf("element %d = %#x, not %#x as in the library", i, got, library[i])
		}
	}
}

func TestTablesAreApart(t *testing.T) {
	table := Table()
	clear(table[:])
	if got := Table()[255]; got != 0xad7d5351 {
		t.Errorf("after another table was cleared, the element 255 is %#x", got)
	}
	if got := Sum([]byte{1, 2, 3}); got != update(0, []byte{1, 2, 3}) {
		t.Errorf("after a table was cleared, a sum is %#x", got)
	}
}

// Promise 6.2.

func TestSum(t *testing.T) {
	for _, r := range []struct {
		b    []byte
		want uint32
	}{
		{nil, 0},
		{[]byte{}, 0},
		{[]byte{0}, 0x527d5351},
		{[]byte{255}, 0xff000000},
		{[]byte("a"), 0xc1d04330},
		{[]byte("123456789"), 0xe3069283},
		{times(4, 0), 0x48674bc7},
		{times(4, 0xff), full},
		// The examples of the standard of iSCSI.
		{times(32, 0), 0x8a9136aa},
		{times(32, 0xff), 0x62a8ab43},
		{rising(32), 0x46dd794e},
	} {
		if got := Sum(r.b); got != r.want {
			t.Errorf("Sum(%x) = %#x, not %#x", r.b, got, r.want)
		}
		if got := Update(0, r.b); got != r.want {
			t.Errorf("Update(0, %x) = %#x, not %#x", r.b, got, r.want)
		}
	}
	falling := rising(32)
	slices.Reverse(falling)
	if got := Sum(falling); got != 0x113fdb5c {
		t.Errorf("Sum(%x) = %#x", falling, got)
	}
}

func TestUpdate(t *testing.T) {
	for _, r := range []struct {
		crc  uint32
		b    []byte
		want uint32
	}{
		{full, nil, full},
		{full, []byte{0}, full},
		{full, []byte{1}, full ^ 0xf26b8303},
		{full, []byte{128}, full ^ 0x82f63b78},
		{full - 1, []byte{0}, full ^ 0xf26b8303},
		{full - 1, []byte{1}, full},
		{full - 0x100, []byte{0}, full - 1},
		{0x12345678, []byte{}, 0x12345678},
		{0xe3069283, nil, 0xe3069283},
	} {
		if got := Update(r.crc, r.b); got != r.want {
			t.Errorf("Update(%#x, %x) = %#x, not %#x", r.crc, r.b, got, r.want)
		}
	}
}

// checkUpdate demands the checksums of b, at the beginning and continued, and that b remains as it is.
func checkUpdate(t *testing.T, b []byte) {
	t.Helper()
	library, before := crc32.MakeTable(crc32.Castagnoli), slices.Clone(b)
	for _, crc := range starts() {
		got := Update(crc, b)
		if want := update(crc, b); got != want {
			t.Errorf("Update(%#x, %x) = %#x, not %#x", crc, b, got, want)
		}
		if want := crc32.Update(crc, library, b); got != want {
			t.Errorf("Update(%#x, %x) = %#x, not %#x as in the library", crc, b, got, want)
		}
	}
	if got, want := Sum(b), update(0, b); got != want {
		t.Errorf("Sum(%x) = %#x, not %#x", b, got, want)
	}
	if !bytes.Equal(b, before) {
		t.Errorf("%x is changed to %x", before, b)
	}
}

func TestUpdateAll(t *testing.T) {
	for value := range 256 {
		checkUpdate(t, []byte{byte(value)})
		checkUpdate(t, []byte{byte(value), 0, byte(value)})
	}
	random := rand.New(rand.NewSource(62))
	for count := range 600 {
		checkUpdate(t, randomBytes(random, count))
		checkUpdate(t, times(count, 0))
		checkUpdate(t, times(count, 0xff))
	}
	checkUpdate(t, randomBytes(random, 100000))
}

func TestUpdateOfParts(t *testing.T) {
	random := rand.New(rand.NewSource(620))
	for count := range 40 {
		b := randomBytes(random, count)
		for _, crc := range starts() {
			want := Update(crc, b)
			for i := range count + 1 {
				if got := Update(Update(crc, b[:i]), b[i:]); got != want {
					t.Errorf("%x from %#x on, divided at %d: %#x, not %#x", b, crc, i, got, want)
				}
			}
			one := crc
			for i := range b {
				one = Update(one, b[i:i+1])
			}
			if one != want {
				t.Errorf("%x from %#x on, a byte after the other: %#x, not %#x", b, crc, one, want)
			}
		}
	}
}

// Promise 6.3.

func TestAppend(t *testing.T) {
	for _, r := range []struct {
		b    []byte
		want []byte
	}{
		{nil, []byte{0, 0, 0, 0}},
		{[]byte{}, []byte{0, 0, 0, 0}},
		{[]byte{0}, []byte{0, 0x51, 0x53, 0x7d, 0x52}},
		{[]byte{255}, []byte{255, 0, 0, 0, 0xff}},
		{[]byte("a"), []byte{'a', 0x30, 0x43, 0xd0, 0xc1}},
		{[]byte("123456789"), append([]byte("123456789"), 0x83, 0x92, 0x06, 0xe3)},
	} {
		if got := Append(r.b); !bytes.Equal(got, r.want) {
			t.Errorf("Append(%x) = %x, not %x", r.b, got, r.want)
		}
	}
	random := rand.New(rand.NewSource(63))
	for count := range 300 {
		b := randomBytes(random, count)
		want := binary.LittleEndian.AppendUint32(slices.Clone(b), update(0, b))
		if got := Append(b); !bytes.Equal(got, want) {
			t.Errorf("Append(%x) = %x, not %x", b, got, want)
		}
	}
}

func TestAppendHasMemoryOfItsOwn(t *testing.T) {
	for _, count := range []int{0, 1, 3, 40} {
		memory := times(64, 9)
		got, other := Append(memory[:count]), Append(memory[:count])
		want := slices.Clone(other)
		for i := range got {
			got[i] = 77
		}
		if !bytes.Equal(memory, times(64, 9)) {
			t.Errorf("Append of %d bytes changes its argument or the memory behind it, or keeps it: %x", count, memory)
		}
		if !bytes.Equal(other, want) {
			t.Errorf("two results of Append of %d bytes share memory", count)
		}
		clear(memory)
		if !bytes.Equal(other, want) {
			t.Errorf("a result of Append of %d bytes shares memory with the argument", count)
		}
	}
}

func TestCheck(t *testing.T) {
	for _, r := range []struct {
		b    []byte
		want bool
	}{
		{nil, false},
		{[]byte{}, false},
		{[]byte{0}, false},
		{[]byte{0, 0}, false},
		{[]byte{0, 0, 0}, false},
		{[]byte{0, 0, 0, 0}, true},
		{[]byte{1, 0, 0, 0}, false},
		{[]byte{0, 0, 0, 1}, false},
		{[]byte{255, 255, 255, 255}, false},
		{[]byte{0, 0, 0, 0, 0}, false},
		{[]byte{0, 0x51, 0x53, 0x7d, 0x52}, true},
		{[]byte{0, 0x52, 0x7d, 0x53, 0x51}, false},
		{[]byte{0x52, 0x7d, 0x53, 0x51, 0}, false},
		{[]byte{0x51, 0x53, 0x7d, 0x52, 0}, false},
		{times(8, 0xff), true},
		{times(7, 0xff), false},
		{times(9, 0xff), false},
		{append([]byte("123456789"), 0x83, 0x92, 0x06, 0xe3), true},
		{append([]byte("123456788"), 0x83, 0x92, 0x06, 0xe3), false},
		{append([]byte("123456789"), 0xe3, 0x06, 0x92, 0x83), false},
		{append([]byte("123456789"), 0x83, 0x92, 0x06), false},
		{append([]byte("123456789"), 0x83, 0x92, 0x06, 0xe3, 0), false},
	} {
		if got := Check(r.b); got != r.want {
			t.Errorf("Check(%x) = %v", r.b, got)
		}
	}
}

func TestCheckLooksOnlyAtTheBytes(t *testing.T) {
	memory := Append([]byte{5, 6, 7})
	for end := range memory {
		if Check(memory[:end]) {
			t.Errorf("Check(%x), where the memory behind has the rest", memory[:end])
		}
	}
	before := slices.Clone(memory)
	if !Check(memory) || !bytes.Equal(memory, before) {
		t.Errorf("Check changes %x to %x", before, memory)
	}
}

func TestCheckAgainstTheText(t *testing.T) {
	random := rand.New(rand.NewSource(630))
	for count := range 200 {
		b := randomBytes(random, count)
		want := count >= 4 && binary.LittleEndian.Uint32(b[max(0, count-4):]) == update(0, b[:max(0, count-4)])
		if got := Check(b); got != want {
			t.Errorf("Check(%x) = %v", b, got)
		}
		for _, sum := range []uint32{^update(0, b), bits.ReverseBytes32(update(0, b)), crc32.ChecksumIEEE(b), update(0, b) + 1} {
			whole := binary.LittleEndian.AppendUint32(slices.Clone(b), sum)
			if got := Check(whole); got != (sum == update(0, b)) {
				t.Errorf("Check(%x) = %v", whole, got)
			}
		}
	}
}

// Promise 6.4.

// inverted returns b with the bits of a pattern inverted, the lowest one at the bit at; bits behind the end are left out.
func inverted(b []byte, pattern uint32, at int) []byte {
	out := slices.Clone(b)
	for i := at; pattern > 0 && i < 8*len(out); i++ {
		out[i/8] ^= byte(pattern%2) << (i % 8)
		pattern /= 2
	}
	return out
}

// patterns are single bits, pairs of bits, runs of bits, and those of the polynomial.
func patterns() []uint32 {
	list := []uint32{polynomial, bits.Reverse32(polynomial), 0x1edc6f41, 0x55555555, 0xaaaaaaaa}
	for i := range 32 {
		list = append(list, 1<<i, 1|1<<i, 1<<i|1<<31, full>>i, full<<i)
	}
	return list
}

func TestAppendedIsAccepted(t *testing.T) {
	random := rand.New(rand.NewSource(64))
	for count := range 300 {
		for _, b := range [][]byte{times(count, 0), times(count, 0xff), rising(count), randomBytes(random, count)} {
			if !Check(Append(b)) || !Check(Append(Append(b))) {
				t.Errorf("what Append(%x) returns is not accepted", b)
			}
		}
	}
}

func TestInvertedIsNotAccepted(t *testing.T) {
	random := rand.New(rand.NewSource(640))
	for _, count := range []int{0, 1, 2, 3, 4, 5, 9, 30} {
		whole := Append(randomBytes(random, count))
		list := patterns()
		for range 100 {
			list = append(list, random.Uint32())
		}
		for at := range 8 * len(whole) {
			for _, pattern := range list {
				bent := inverted(whole, pattern, at)
				if Check(bent) && !bytes.Equal(bent, whole) {
					t.Errorf("%x is accepted: %x with the pattern %#x at the bit %d", bent, whole, pattern, at)
				}
			}
		}
	}
}

// difference returns the bits in which the checksum at the end of b is not that of the bytes before it: 0 if b is accepted.
func difference(b []byte) uint32 {
	end := len(b) - 4
	return Sum(b[:end]) ^ binary.LittleEndian.Uint32(b[end:])
}

// independent reports whether no combination of some rows by exclusive or is 0.
func independent(rows []uint32) bool {
	var leading [32]uint32
	for _, row := range rows {
		for row != 0 && leading[bits.Len32(row)-1] != 0 {
			row ^= leading[bits.Len32(row)-1]
		}
		if row == 0 {
			return false
		}
		leading[bits.Len32(row)-1] = row
	}
	return true
}

// The difference of some inverted bits is that of the single ones, combined. So all patterns within 32 bits are found if the differences of these bits are independent.
func TestAllPatternsWithin32Bits(t *testing.T) {
	for _, count := range []int{0, 1, 4, 5, 100, 1000} {
		whole := Append(rising(count))
		var rows []uint32
		for at := range 8 * len(whole) {
			rows = append(rows, difference(inverted(whole, 1, at)))
		}
		for at := range len(rows) - 31 {
			if !independent(rows[at : at+32]) {
				t.Errorf("%d bytes: a pattern from the bit %d on is not found", count, at)
			}
		}
	}
}

func TestDifferencesCombine(t *testing.T) {
	random := rand.New(rand.NewSource(641))
	for count := range 60 {
		whole := Append(randomBytes(random, count))
		for range 50 {
			at, pattern, want := random.Intn(8*len(whole)), random.Uint32(), uint32(0)
			for i := range 32 {
				if pattern>>i%2 == 1 && at+i < 8*len(whole) {
					want ^= difference(inverted(whole, 1, at+i))
				}
			}
			bent := inverted(whole, pattern, at)
			if got := difference(bent); got != want {
				t.Errorf("%x with the pattern %#x at the bit %d: %#x, not %#x", whole, pattern, at, got, want)
			}
			if Check(bent) != (want == 0) {
				t.Errorf("Check(%x) = %v", bent, Check(bent))
			}
		}
	}
}
