package mean

import (
	"runtime/debug"
	"syscall"
	"testing"
	"unsafe"

	"tscodec/api"
)

// unreadable returns n values that cannot be read: it takes no memory, though they have gigabytes, and looking at
// one of them is a panic of the test.
func unreadable(t *testing.T, n int) []int64 {
	t.Helper()
	b, err := syscall.Mmap(-1, 0, 8*n, syscall.PROT_NONE, syscall.MAP_PRIVATE|syscall.MAP_ANON|syscall.MAP_NORESERVE)
	if err != nil {
		t.Skip("no room for as many values: ", err)
	}
	old := debug.SetPanicOnFault(true)
	t.Cleanup(func() {
		debug.SetPanicOnFault(old)
		syscall.Munmap(b)
	})
	return unsafe.Slice((*int64)(unsafe.Pointer(unsafe.SliceData(b))), n)
}

// readsAll reports whether All of values that cannot be read looks at one of them, and returns its error if it does not.
func readsAll(t *testing.T, l []int64, eps int64) (reads bool, e api.Errno) {
	t.Helper()
	defer func() { reads = recover() != nil }()
	got, e := All(l, eps)
	if len(got) > 0 {
		t.Errorf("All of %d values, %d: %d segments", len(l), eps, len(got))
	}
	return false, e
}

// Promise 16.3.

func TestAllBeyondTheLimit(t *testing.T) {
	l := unreadable(t, api.MaxStream+1)
	for _, eps := range []int64{0, 1, api.MaxTolerance} {
		if reads, e := readsAll(t, l, eps); reads || e != api.ErrLimit {
			t.Errorf("All of %d values, %d: %v", len(l), eps, e)
		}
	}
	for _, eps := range []int64{-1, api.MaxTolerance + 1} {
		if reads, e := readsAll(t, l, eps); reads || e != api.ErrTolerance {
			t.Errorf("All of %d values, %d: %v", len(l), eps, e)
		}
	}
}

// TestAllAtTheLimit asks only whether All begins, since the whole list would take minutes.
func TestAllAtTheLimit(t *testing.T) {
	l := unreadable(t, api.MaxStream)
	if reads, e := readsAll(t, l, 1); !reads {
		t.Errorf("All of %d values: %v without looking at them", len(l), e)
	}
}
