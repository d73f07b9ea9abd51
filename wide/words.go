package wide

import (
	"cmp"
	"math"
	"math/bits"
)

// words is an absolute value, the least significant word first.
type words [4]uint64

// oneWord returns the lowest word, and whether the others are 0.
func oneWord(a words) (uint64, bool) {
	return a[0], a == words{a[0]}
}

// length returns the number of words without those that are 0 at the upper end.
func length(a words) int {
	n := len(a)
	for n > 0 && a[n-1] == 0 {
		n--
	}
	return n
}

// compareWords returns -1, 0 or 1 if a is less than, equal to or greater than b.
func compareWords(a, b words) int {
	for i := len(a) - 1; i >= 0; i-- {
		if a[i] != b[i] {
			return cmp.Compare(a[i], b[i])
		}
	}
	return 0
}

// addWords returns a + b modulo 2^256, and whether this is the sum.
func addWords(a, b words) (words, bool) {
	carry := addTo(a[:], b[:])
	return a, carry == 0
}

// subWords returns a - b; b is not greater than a.
func subWords(a, b words) words {
	borrow := uint64(0)
	for i := range a {
		a[i], borrow = bits.Sub64(a[i], b[i], borrow)
	}
	return a
}

// mulWords returns a * b modulo 2^256, and whether this is the product.
func mulWords(a, b words) (words, bool) {
	var product [2 * len(a)]uint64
	for i, factor := range a {
		product[i+len(b)] = addProduct(product[i:i+len(b)], b, factor)
	}
	low, high := words(product[:len(a)]), words(product[len(a):])
	return low, high == words{}
}

// addProduct adds b * factor to sum, which has as many words as b, and returns the word that does not fit.
func addProduct(sum []uint64, b words, factor uint64) uint64 {
	over := uint64(0)
	for i := range sum {
		high, low := bits.Mul64(b[i], factor)
		var carry uint64
		low, carry = bits.Add64(low, over, 0)
		high += carry // does not wrap: the product and two more words are less than 2^128
		sum[i], carry = bits.Add64(sum[i], low, 0)
		over = high + carry
	}
	return over
}

// divWord returns a / b, rounded down, and the rest; b is not 0.
func divWord(a words, b uint64) (words, uint64) {
	rest := uint64(0)
	for i := len(a) - 1; i >= 0; i-- {
		a[i], rest = bits.Div64(rest, a[i], b)
	}
	return a, rest
}

// divWords returns a / b, rounded down, and the rest; b is not 0.
func divWords(a, b words) (quotient, rest words) {
	if compareWords(a, b) < 0 {
		return words{}, a
	}
	n := length(b)
	if n == 1 {
		q, r := divWord(a, b[0])
		return q, words{r}
	}
	// Long division, with words as its digits. Both numbers are shifted so that the top bit of b is set,
	// since then a digit guessed from the top words is at most 2 too great.
	shift := uint(bits.LeadingZeros64(b[n-1]))
	up, _ := shiftUp(b, shift)
	divisor := up[:n]
	var running [len(a) + 1]uint64
	low, over := shiftUp(a, shift)
	copy(running[:], low[:])
	running[len(a)] = over
	for i := len(a) - n; i >= 0; i-- {
		quotient[i] = takeDigit(running[i:i+n+1], divisor)
	}
	// The rest is less than the divisor, so that the topmost word is 0 by now.
	return quotient, shiftDown(words(running[:len(a)]), shift)
}

// takeDigit returns running / divisor, rounded down, and leaves the rest in running.
// The divisor has its top bit set; running has one word more than it, and is less than it times 2^64.
func takeDigit(running, divisor []uint64) uint64 {
	n := len(divisor)
	guess := guessDigit(running[n], running[n-1], divisor[n-1])
	borrow := subProduct(running, divisor, guess)
	for borrow != 0 {
		// What was taken is too much. Giving back carries over the top exactly when running is not negative any more.
		guess--
		borrow -= addTo(running, divisor)
	}
	return guess
}

// guessDigit returns the quotient of two words and the top word of a divisor, or the greatest digit if it is not a digit.
func guessDigit(high, low, top uint64) uint64 {
	if high >= top {
		return math.MaxUint64
	}
	guess, _ := bits.Div64(high, low, top)
	return guess
}

// subProduct subtracts b * factor from a, which has one word more than b, modulo its size. It returns 1 if this wrapped, and 0 otherwise.
func subProduct(a, b []uint64, factor uint64) uint64 {
	over, borrow := uint64(0), uint64(0)
	for i, word := range b {
		high, low := bits.Mul64(word, factor)
		var carry uint64
		low, carry = bits.Add64(low, over, 0)
		over = high + carry
		a[i], borrow = bits.Sub64(a[i], low, borrow)
	}
	a[len(b)], borrow = bits.Sub64(a[len(b)], over, borrow)
	return borrow
}

// addTo adds b to a, which has at least as many words, modulo its size. It returns 1 if this wrapped, and 0 otherwise.
func addTo(a, b []uint64) uint64 {
	carry := uint64(0)
	for i, word := range b {
		a[i], carry = bits.Add64(a[i], word, carry)
	}
	for i := len(b); i < len(a); i++ {
		a[i], carry = bits.Add64(a[i], 0, carry)
	}
	return carry
}

// shiftUp returns a * 2^shift modulo 2^256, and the bits above; shift is less than 64.
func shiftUp(a words, shift uint) (words, uint64) {
	over := uint64(0)
	for i, word := range a {
		a[i] = word<<shift | over
		over = word >> (64 - shift)
	}
	return a, over
}

// shiftDown returns a / 2^shift, rounded down; shift is less than 64.
func shiftDown(a words, shift uint) words {
	over := uint64(0)
	for i := len(a) - 1; i >= 0; i-- {
		word := a[i]
		a[i] = word>>shift | over
		over = word << (64 - shift)
	}
	return a
}
