package frame

import (
	"bytes"
	"encoding/binary"
	"hash/crc32"
	"math"
	"math/bits"
	"math/rand"
	"slices"
	"testing"

	"tscodec/api"
)

const (
	before = 9  // bytes of a frame before its payload
	around = 13 // bytes of a frame beside its payload
)

// sum returns the checksum of b as the library computes it.
func sum(b []byte) uint32 {
	return crc32.Checksum(b, crc32.MakeTable(crc32.Castagnoli))
}

// start returns what a frame has before its payload.
func start(kind uint8, length uint32) []byte {
	b := binary.LittleEndian.AppendUint32([]byte{kind}, length)
	return binary.LittleEndian.AppendUint32(b, sum(b))
}

// framed returns the frame that Encode is to return.
func framed(kind uint8, payload []byte) []byte {
	b := slices.Concat(start(kind, uint32(len(payload))), payload)
	return binary.LittleEndian.AppendUint32(b, sum(payload))
}

// randomBytes returns count random bytes.
func randomBytes(random *rand.Rand, count int) []byte {
	b := make([]byte, count)
	for i := range b {
		b[i] = byte(random.Uint32())
	}
	return b
}

// examples are frames whose bytes are written out.
func examples() []struct {
	kind    uint8
	payload []byte
	whole   []byte
} {
	return []struct {
		kind    uint8
		payload []byte
		whole   []byte
	}{
		{1, nil, []byte{1, 0, 0, 0, 0, 0x99, 0x19, 0x63, 0x7d, 0, 0, 0, 0}},
		{0, []byte{}, []byte{0, 0, 0, 0, 0, 0x35, 0x76, 0x72, 0x45, 0, 0, 0, 0}},
		{2, nil, []byte{2, 0, 0, 0, 0, 0x6d, 0xa9, 0x50, 0x35, 0, 0, 0, 0}},
		{255, nil, []byte{255, 0, 0, 0, 0, 0x96, 0x18, 0x1a, 0xe5, 0, 0, 0, 0}},
		{2, []byte("a"), []byte{2, 1, 0, 0, 0, 0xd5, 0x03, 0x15, 0xe8, 'a', 0x30, 0x43, 0xd0, 0xc1}},
		{1, []byte("123456789"), slices.Concat([]byte{1, 9, 0, 0, 0, 0xc7, 0xd0, 0x62, 0x56}, []byte("123456789"), []byte{0x83, 0x92, 0x06, 0xe3})},
		{7, make([]byte, 32), slices.Concat([]byte{7, 32, 0, 0, 0, 0xfa, 0x6c, 0x21, 0x3a}, make([]byte, 32), []byte{0xaa, 0x36, 0x91, 0x8a})},
		{0, []byte{255, 255, 255, 255}, []byte{0, 4, 0, 0, 0, 0xc6, 0x47, 0x50, 0x3e, 255, 255, 255, 255, 255, 255, 255, 255}},
	}
}

// checkRead demands that the frame at an index of b has a kind and a payload and ends at another index.
func checkRead(t *testing.T, b []byte, at int, kind uint8, payload []byte, end int) {
	t.Helper()
	f, got, e := Decode(b, at)
	if e != api.OK || got != end || f.Kind != kind || !bytes.Equal(f.Payload, payload) {
		t.Errorf("at %d of %d bytes: kind %d, %d bytes, end %d, %v; not kind %d, %d bytes, end %d", at, len(b), f.Kind, len(f.Payload), got, e, kind, len(payload), end)
	}
}

// checkError demands an error and that nothing else is returned.
func checkError(t *testing.T, name string, b []byte, at int, want api.Errno) {
	t.Helper()
	f, end, e := Decode(b, at)
	if e != want || end != 0 || f.Kind != 0 || len(f.Payload) != 0 {
		t.Errorf("%s: kind %d, %d bytes, end %d, %v; not %v alone", name, f.Kind, len(f.Payload), end, e, want)
	}
}

// Promise 7.1.

func TestSize(t *testing.T) {
	for _, r := range []struct{ n, want int }{
		{0, 13},
		{1, 14},
		{255, 268},
		{256, 269},
		{65536, 65549},
		{api.MaxFrame - 1, 4194316},
		{api.MaxFrame, 4194317},
		{api.MaxFrame + 1, 0},
		{1 << 24, 0},
		{math.MaxInt32, 0},
		{math.MaxInt - 12, 0},
		{math.MaxInt, 0},
		{-1, 0},
		{-13, 0},
		{-14, 0},
		{math.MinInt, 0},
	} {
		if got := Size(r.n); got != r.want {
			t.Errorf("Size(%d) = %d, not %d", r.n, got, r.want)
		}
	}
}

func TestBytesOfFrames(t *testing.T) {
	for _, r := range examples() {
		got, e := Encode(r.kind, r.payload)
		if e != api.OK || !bytes.Equal(got, r.whole) {
			t.Errorf("Encode(%d, %x) = %x, %v, not %x", r.kind, r.payload, got, e, r.whole)
		}
		if size := Size(len(r.payload)); size != len(r.whole) {
			t.Errorf("Size(%d) = %d, not %d", len(r.payload), size, len(r.whole))
		}
		checkRead(t, r.whole, 0, r.kind, r.payload, len(r.whole))
	}
}

func TestEveryKind(t *testing.T) {
	for kind := range 256 {
		for _, payload := range [][]byte{nil, {0}, {byte(kind), 255, 0, byte(kind)}} {
			want := framed(uint8(kind), payload)
			got, e := Encode(uint8(kind), payload)
			if e != api.OK || !bytes.Equal(got, want) {
				t.Errorf("Encode(%d, %x) = %x, %v, not %x", kind, payload, got, e, want)
			}
			checkRead(t, want, 0, uint8(kind), payload, len(want))
		}
	}
}

// Promise 7.2.

func TestEncodeManyLengths(t *testing.T) {
	random := rand.New(rand.NewSource(72))
	lengths := []int{65535, 65536, 65537, 1<<20 + 3, api.MaxFrame - 1, api.MaxFrame}
	for n := range 600 {
		lengths = append(lengths, n)
	}
	for _, n := range lengths {
		payload, kind := randomBytes(random, n), uint8(random.Uint32())
		copied, want := slices.Clone(payload), framed(kind, payload)
		got, e := Encode(kind, payload)
		if e != api.OK || !bytes.Equal(got, want) || len(got) != Size(n) {
			t.Errorf("%d bytes: %d bytes, %v, not the frame of %d bytes", n, len(got), e, len(want))
		}
		if !bytes.Equal(payload, copied) {
			t.Errorf("%d bytes: the payload is changed", n)
		}
		checkRead(t, got, 0, kind, payload, len(want))
	}
}

func TestEncodeTooMuch(t *testing.T) {
	for _, n := range []int{api.MaxFrame + 1, api.MaxFrame + 2, 1 << 23, 1 << 24} {
		if b, e := Encode(1, make([]byte, n)); e != api.ErrLimit || len(b) != 0 {
			t.Errorf("%d bytes: %d bytes, %v", n, len(b), e)
		}
	}
}

func TestEncodeHasMemoryOfItsOwn(t *testing.T) {
	for _, n := range []int{0, 1, 5, 20} {
		memory := bytes.Repeat([]byte{9}, 100)
		got, _ := Encode(3, memory[:n])
		other, _ := Encode(3, memory[:n])
		for i := range got {
			got[i] = 77
		}
		if !bytes.Equal(memory, bytes.Repeat([]byte{9}, 100)) {
			t.Errorf("%d bytes: the payload or the memory behind it is changed or kept", n)
		}
		clear(memory)
		if !bytes.Equal(other, framed(3, bytes.Repeat([]byte{9}, n))) {
			t.Errorf("%d bytes: a frame shares memory with the payload or with another frame", n)
		}
	}
}

// Promise 7.3.

func TestDecodeAmongOtherBytes(t *testing.T) {
	random := rand.New(rand.NewSource(73))
	for _, n := range []int{0, 1, 4, 8, 40, 300, 70000} {
		for _, at := range []int{0, 1, 8, 9, 13, 1000} {
			for _, behind := range []int{0, 1, 13, 100} {
				payload := randomBytes(random, n)
				b := slices.Concat(randomBytes(random, at), framed(5, payload), randomBytes(random, behind))
				copied := slices.Clone(b)
				checkRead(t, b, at, 5, payload, at+around+n)
				if !bytes.Equal(b, copied) {
					t.Errorf("%d bytes at %d: the bytes are changed", n, at)
				}
			}
		}
	}
}

func TestDecodeOneBehindTheOther(t *testing.T) {
	var b []byte
	for _, r := range examples() {
		b = append(b, r.whole...)
	}
	at := 0
	for _, r := range examples() {
		checkRead(t, b, at, r.kind, r.payload, at+len(r.whole))
		at += len(r.whole)
	}
	checkError(t, "at the end of all frames", b, at, api.ErrTruncated)
}

func TestDecodeHasMemoryOfItsOwn(t *testing.T) {
	b := slices.Concat([]byte{8}, framed(4, []byte("payload")), []byte{8})
	copied := slices.Clone(b)
	f, _, _ := Decode(b, 1)
	other, _, _ := Decode(b, 1)
	for i := range cap(f.Payload) {
		f.Payload[:cap(f.Payload)][i] = 77
	}
	if !bytes.Equal(b, copied) {
		t.Errorf("a payload shares memory with the argument: %x", b)
	}
	clear(b)
	if string(other.Payload) != "payload" {
		t.Errorf("a payload shares memory with the argument or with another one: %x", other.Payload)
	}
}

// edited returns b with another byte at an index.
func edited(b []byte, at int) []byte {
	out := slices.Clone(b)
	out[at] ^= 0x10
	return out
}

func TestDecodeErrors(t *testing.T) {
	good := framed(1, []byte("twenty bytes of them"))
	last := len(good) - 1
	tooLong, longest := start(1, api.MaxFrame+1), start(1, api.MaxFrame)
	for _, r := range []struct {
		name string
		b    []byte
		at   int
		want api.Errno
	}{
		{"before the beginning", good, -1, api.ErrRange},
		{"far before the beginning", good, math.MinInt, api.ErrRange},
		{"behind the end", good, last + 2, api.ErrRange},
		{"far behind the end", good, math.MaxInt, api.ErrRange},
		{"behind the end of nothing", nil, 1, api.ErrRange},
		{"before the beginning of nothing", nil, -1, api.ErrRange},
		{"nothing", nil, 0, api.ErrTruncated},
		{"no bytes", []byte{}, 0, api.ErrTruncated},
		{"at the end", good, last + 1, api.ErrTruncated},
		{"at the last byte", good, last, api.ErrTruncated},
		{"eight bytes before the end", good, last - 7, api.ErrTruncated},
		{"nine bytes before the end", good, last - 8, api.ErrChecksum},
		{"eight bytes", good[:8], 0, api.ErrTruncated},
		{"eight bytes, damaged", edited(good[:8], 1), 0, api.ErrTruncated},
		{"eight bytes, too long", tooLong[:8], 0, api.ErrTruncated},
		{"nine bytes", good[:9], 0, api.ErrTruncated},
		{"nine bytes, damaged", edited(good[:9], 1), 0, api.ErrChecksum},
		{"nine bytes, too long", tooLong, 0, api.ErrLimit},
		{"nine bytes, too long and damaged", edited(tooLong, 8), 0, api.ErrChecksum},
		{"nine bytes of the longest one", longest, 0, api.ErrTruncated},
		{"the greatest length", start(1, math.MaxUint32), 0, api.ErrLimit},
		{"a length with the sign bit", start(1, 1<<31), 0, api.ErrLimit},
		{"a length with the sign bit and a payload", slices.Concat(start(1, 1<<31), make([]byte, 50)), 0, api.ErrLimit},
		{"too long, with bytes behind it", slices.Concat(tooLong, make([]byte, 50)), 0, api.ErrLimit},
		{"another kind", edited(good, 0), 0, api.ErrChecksum},
		{"another length", edited(good, 1), 0, api.ErrChecksum},
		{"a far greater length", edited(good, 4), 0, api.ErrChecksum},
		{"another first checksum", edited(good, 5), 0, api.ErrChecksum},
		{"no second checksum", good[:last-3], 0, api.ErrTruncated},
		{"a byte less", good[:last], 0, api.ErrTruncated},
		{"a byte less, damaged", edited(good, 12)[:last], 0, api.ErrTruncated},
		{"another payload", edited(good, 9), 0, api.ErrChecksum},
		{"another end of the payload", edited(good, last-4), 0, api.ErrChecksum},
		{"another second checksum", edited(good, last-3), 0, api.ErrChecksum},
		{"another last byte", edited(good, last), 0, api.ErrChecksum},
		{"checksums that are the other way round", slices.Concat(good[:5], []byte{good[8], good[7], good[6], good[5]}, good[9:]), 0, api.ErrChecksum},
		{"a byte too late", good, 1, api.ErrChecksum},
		{"a byte too early", append([]byte{0}, good...), 0, api.ErrChecksum},
		{"zeros", make([]byte, 30), 0, api.ErrChecksum},
		{"ones", bytes.Repeat([]byte{255}, 30), 0, api.ErrChecksum},
	} {
		checkError(t, r.name, r.b, r.at, r.want)
	}
}

func TestDecodeTheLongest(t *testing.T) {
	payload := randomBytes(rand.New(rand.NewSource(730)), api.MaxFrame)
	whole := framed(6, payload)
	checkRead(t, whole, 0, 6, payload, api.MaxFrame+around)
	checkError(t, "the longest one without its last byte", whole[:len(whole)-1], 0, api.ErrTruncated)
	checkError(t, "the longest one, damaged", edited(whole, len(whole)-5), 0, api.ErrChecksum)
	more := append(payload, 1)
	checkError(t, "one that is too long", framed(6, more), 0, api.ErrLimit)
}

// expected says what Decode is to return, as the text says it: the error, or else the index behind the frame.
func expected(b []byte, at int) (int, api.Errno) {
	rest := b[at:]
	if len(rest) < before {
		return 0, api.ErrTruncated
	}
	if binary.LittleEndian.Uint32(rest[5:]) != sum(rest[:5]) {
		return 0, api.ErrChecksum
	}
	n := uint64(binary.LittleEndian.Uint32(rest[1:]))
	if n > 4194304 {
		return 0, api.ErrLimit
	}
	if uint64(len(rest)) < n+around {
		return 0, api.ErrTruncated
	}
	if binary.LittleEndian.Uint32(rest[before+n:]) != sum(rest[before:before+n]) {
		return 0, api.ErrChecksum
	}
	return at + around + int(n), api.OK
}

func TestDecodeAgainstTheText(t *testing.T) {
	random := rand.New(rand.NewSource(731))
	for range 3000 {
		b := slices.Concat(randomBytes(random, random.Intn(4)), start(uint8(random.Uint32()), uint32(random.Intn(40))), randomBytes(random, random.Intn(60)))
		at := random.Intn(len(b) + 1)
		if random.Intn(2) == 0 {
			at = random.Intn(4)
		}
		want, wantError := expected(b, at)
		f, end, e := Decode(b, at)
		if e != wantError || end != want {
			t.Fatalf("Decode(%x, %d) = %d, %v, not %d, %v", b, at, end, e, want, wantError)
		}
		if e == api.OK && (f.Kind != b[at] || !bytes.Equal(f.Payload, b[at+before:end-4])) {
			t.Fatalf("Decode(%x, %d) = %d, %x", b, at, f.Kind, f.Payload)
		}
	}
}

func FuzzDecode(f *testing.F) {
	for _, r := range examples() {
		f.Add(r.whole, 0)
		f.Add(edited(r.whole, 3), 0)
		f.Add(append([]byte{1, 2}, r.whole...), 2)
	}
	f.Fuzz(func(t *testing.T, b []byte, at int) {
		frame, end, e := Decode(b, at)
		if e != api.OK {
			if end != 0 || frame.Kind != 0 || len(frame.Payload) != 0 {
				t.Errorf("Decode(%x, %d): something together with %v", b, at, e)
			}
			return
		}
		again, e := Encode(frame.Kind, frame.Payload)
		if e != api.OK || !bytes.Equal(again, b[at:end]) {
			t.Errorf("Decode(%x, %d): the frame of the result is %x, %v", b, at, again, e)
		}
	})
}

// Promise 7.4.

func TestNoBeginningIsRead(t *testing.T) {
	random := rand.New(rand.NewSource(74))
	for n := range 60 {
		// The memory behind each beginning has the rest of the frame.
		whole := framed(uint8(n), randomBytes(random, n))
		for end := range whole {
			checkError(t, "a beginning", whole[:end], 0, api.ErrTruncated)
		}
		shifted := append([]byte{1, 2, 3}, whole...)
		for end := range whole {
			checkError(t, "a beginning behind other bytes", shifted[:3+end], 3, api.ErrTruncated)
		}
	}
}

// inverted returns b with the bits of a pattern inverted, the lowest one at the bit at; bits behind the end are left out.
func inverted(b []byte, pattern uint32, at int) []byte {
	out := slices.Clone(b)
	for i := at; pattern > 0 && i < 8*len(out); i++ {
		out[i/8] ^= byte(pattern%2) << (i % 8)
		pattern /= 2
	}
	return out
}

// patterns are single bits, pairs of bits, runs of bits, those of the polynomial, and random ones.
func patterns(random *rand.Rand) []uint32 {
	list := []uint32{0x82f63b78, bits.Reverse32(0x82f63b78), 0x1edc6f41, 0x55555555, 0xaaaaaaaa}
	for i := range 32 {
		list = append(list, 1<<i, 1|1<<i, 1<<i|1<<31, math.MaxUint32>>i, math.MaxUint32<<i)
	}
	for range 60 {
		list = append(list, random.Uint32())
	}
	return list
}

func TestInvertedIsNotRead(t *testing.T) {
	random := rand.New(rand.NewSource(740))
	for _, n := range []int{0, 1, 2, 3, 4, 5, 9, 30} {
		whole := framed(uint8(random.Uint32()), randomBytes(random, n))
		list := patterns(random)
		for at := range 8 * len(whole) {
			for _, pattern := range list {
				bent := inverted(whole, pattern, at)
				if bytes.Equal(bent, whole) {
					continue
				}
				checkError(t, "with inverted bits", bent, 0, api.ErrChecksum)
				// Other bytes around it must not complete it either.
				checkError(t, "with inverted bits, among other frames", slices.Concat(whole, bent, whole), len(whole), api.ErrChecksum)
			}
		}
	}
}

// difference returns the bits in which the two checksums of a frame with n bytes of payload are not those of the bytes before them.
func difference(b []byte, n int) [2]uint32 {
	first := sum(b[:5]) ^ binary.LittleEndian.Uint32(b[5:])
	return [2]uint32{first, sum(b[before:before+n]) ^ binary.LittleEndian.Uint32(b[before+n:])}
}

// independent reports whether no combination of some rows by exclusive or is 0.
func independent(rows [][2]uint32) bool {
	var leading [64]uint64
	for _, row := range rows {
		number := uint64(row[0])<<32 | uint64(row[1])
		for number != 0 && leading[bits.Len64(number)-1] != 0 {
			number ^= leading[bits.Len64(number)-1]
		}
		if number == 0 {
			return false
		}
		leading[bits.Len64(number)-1] = number
	}
	return true
}

// The difference of some inverted bits is that of the single ones, combined. So all patterns within 32 bits are found if the differences of these bits are independent, and Decode rejects each difference.
func TestAllPatternsWithin32Bits(t *testing.T) {
	for _, n := range []int{0, 1, 4, 5, 100, 1000} {
		whole, e := Encode(2, bytes.Repeat([]byte{5}, n))
		if e != api.OK || difference(whole, n) != [2]uint32{} {
			t.Fatalf("%d bytes: %x, %v", n, whole, e)
		}
		var rows [][2]uint32
		for at := range 8 * len(whole) {
			bent := inverted(whole, 1, at)
			checkError(t, "with an inverted bit", bent, 0, api.ErrChecksum)
			rows = append(rows, difference(bent, n))
		}
		for at := range len(rows) - 31 {
			if !independent(rows[at : at+32]) {
				t.Errorf("%d bytes: a pattern from the bit %d on is not found", n, at)
			}
		}
	}
}
