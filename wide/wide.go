// Package wide is layer 1: see shared/doc/01-wide.md.
package wide

import (
	"cmp"
	"math"
	"math/bits"

	"cashbook/api"
)

// half is how many bytes each half of a number has.
const half = 8

// Of is a number of 64 bits.
func Of(n uint64) api.U128 { return api.U128{Lo: n} }

// Top is the greatest number.
func Top() api.U128 { return api.U128{Hi: math.MaxUint64, Lo: math.MaxUint64} }

// Cmp tells how two numbers stand to one another.
func Cmp(a, b api.U128) int {
	if a.Hi != b.Hi {
		return cmp.Compare(a.Hi, b.Hi)
	}
	return cmp.Compare(a.Lo, b.Lo)
}

// Add is the sum of two numbers.
func Add(a, b api.U128) (api.U128, bool) {
	lo, carry := bits.Add64(a.Lo, b.Lo, 0)
	hi, over := bits.Add64(a.Hi, b.Hi, carry)
	if over != 0 {
		return api.U128{}, false
	}
	return api.U128{Hi: hi, Lo: lo}, true
}

// Sub is what is left of a number without another one.
func Sub(a, b api.U128) (api.U128, bool) {
	lo, borrow := bits.Sub64(a.Lo, b.Lo, 0)
	hi, under := bits.Sub64(a.Hi, b.Hi, borrow)
	if under != 0 {
		return api.U128{}, false
	}
	return api.U128{Hi: hi, Lo: lo}, true
}

// Rest is what is left of a number without another one, or 0.
func Rest(a, b api.U128) api.U128 {
	// Where nothing is left, Sub's number is 0 already.
	left, _ := Sub(a, b)
	return left
}

// Least is the least of all.
func Least(a ...api.U128) api.U128 {
	least := Top()
	for _, n := range a {
		if Cmp(n, least) < 0 {
			least = n
		}
	}
	return least
}

// Sum is the sum of all.
func Sum(l []api.U128) (api.U128, bool) {
	total := api.U128{}
	for _, n := range l {
		next, ok := Add(total, n)
		if !ok {
			return api.U128{}, false
		}
		total = next
	}
	return total, true
}

// Bytes are a number's bytes.
func Bytes(a api.U128) []byte {
	b := make([]byte, 2*half)
	for i := range half {
		// The highest byte stands first, so that bytes stand in order as numbers do.
		shift := 8 * (half - 1 - i)
		b[i] = byte(a.Hi >> shift)
		b[half+i] = byte(a.Lo >> shift)
	}
	return b
}

// Read is the number of bytes.
func Read(b []byte) (api.U128, bool) {
	if len(b) != 2*half {
		return api.U128{}, false
	}
	return api.U128{Hi: word(b[:half]), Lo: word(b[half:])}, true
}

// word is the number of 64 bits that bytes are, the highest first.
func word(b []byte) uint64 {
	n := uint64(0)
	for _, c := range b {
		n = n<<8 | uint64(c)
	}
	return n
}
