package midrange

import (
	"slices"
	"syscall"
	"testing"
	"unsafe"

	"tscodec/api"
)

// zeros returns n values that are 0. The kernel lends one page of zeros for all of them, so that they need no memory
// although they have gigabytes; writing to them ends the test.
func zeros(t *testing.T, n int) []int64 {
	t.Helper()
	b, err := syscall.Mmap(-1, 0, 8*n, syscall.PROT_READ, syscall.MAP_PRIVATE|syscall.MAP_ANON|syscall.MAP_NORESERVE)
	if err != nil {
		t.Skip("no room for as many values: ", err)
	}
	t.Cleanup(func() { syscall.Munmap(b) })
	return unsafe.Slice((*int64)(unsafe.Pointer(&b[0])), n)
}

// Promise 15.3.

func TestAllBeyondTheLimit(t *testing.T) {
	l := zeros(t, api.MaxStream+1)
	for _, eps := range []int64{0, 1, api.MaxTolerance} {
		if got, e := All(l, eps); e != api.ErrLimit || len(got) > 0 {
			t.Errorf("All of %d values, %d: %d segments, %v", len(l), eps, len(got), e)
		}
	}
	for _, eps := range []int64{-1, api.MaxTolerance + 1} {
		if got, e := All(l, eps); e != api.ErrTolerance || len(got) > 0 {
			t.Errorf("All of %d values, %d: %d segments, %v", len(l), eps, len(got), e)
		}
	}
}

func TestAllAtTheLimit(t *testing.T) {
	if testing.Short() {
		t.Skip("it takes some seconds")
	}
	l := zeros(t, api.MaxStream)
	if got, e := All(l, 1); e != api.OK || !slices.Equal(got, constant(api.MaxStream, 0)) {
		t.Errorf("All of %d values: %d segments, %v", len(l), len(got), e)
	}
}
