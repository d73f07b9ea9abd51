package varint

import (
	"math/bits"

	"tscodec/api"
	"tscodec/wide"
)

// codeBits is the number of bits of the greatest code: an absolute value and a sign.
const codeBits = 256 + 1

// code is the number that stands for a Wide: 2 times its absolute value, plus 1 if it is negative. The least significant word is first.
type code [5]uint64

// codeOf returns the code of a, or that of 0 if a is not valid.
func codeOf(a api.Wide) code {
	var c code
	copy(c[:], a.Mag[:])
	c = shiftUp(c, 1)
	if wide.Sign(a) < 0 {
		c[0]++
	}
	return c
}

// wideOf returns the Wide with a code. It is not valid if the code is 1.
func wideOf(c code) api.Wide {
	a := api.Wide{Neg: c[0]%2 == 1}
	c = shiftDown(c, 1)
	copy(a.Mag[:], c[:])
	return a
}

// length returns the number of bits of c without those that are 0 at the upper end.
func length(c code) int {
	for i := len(c) - 1; i >= 0; i-- {
		if c[i] != 0 {
			return 64*i + bits.Len64(c[i])
		}
	}
	return 0
}

// shiftUp returns c * 2^shift modulo its size; shift is less than 64.
func shiftUp(c code, shift uint) code {
	over := uint64(0)
	for i, word := range c {
		c[i] = word<<shift | over
		over = word >> (64 - shift)
	}
	return c
}

// shiftDown returns c / 2^shift, rounded down; shift is less than 64.
func shiftDown(c code, shift uint) code {
	over := uint64(0)
	for i := len(c) - 1; i >= 0; i-- {
		word := c[i]
		c[i] = word>>shift | over
		over = word << (64 - shift)
	}
	return c
}
