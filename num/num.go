// Package num is layer 1: numbers that are checked: see shared/doc/01-num.md.
package num

import (
	"math/bits"

	"dawdler/api"
)

// halves is a number of 128 bits, in two's complement: its low half, and its high one. No sum, difference or product of two numbers of 64 bits is too great for it, so that what is too great can be told of the answer itself.
type halves [2]uint64

// The places of the two halves.
const (
	low  = 0
	high = 1
)

// widen fills the high half with the sign, as two's complement asks.
func widen(n int) halves {
	return halves{uint64(n), uint64(n >> 63)}
}

// narrow holds the number against what its low half alone would stand for: they differ just where 64 bits are too few.
func narrow(h halves) (int, api.Errno) {
	n := int(h[low])
	if widen(n) != h {
		return 0, api.ErrOver
	}
	return n, api.OK
}

func sum(x, y halves) halves {
	l, carry := bits.Add64(x[low], y[low], 0)
	h, _ := bits.Add64(x[high], y[high], carry)
	return halves{l, h}
}

func opposite(x halves) halves {
	l, borrow := bits.Sub64(0, x[low], 0)
	h, _ := bits.Sub64(0, x[high], borrow)
	return halves{l, h}
}

// product leaves out the two high halves' own product: all of it lies beyond 128 bits.
func product(x, y halves) halves {
	h, l := bits.Mul64(x[low], y[low])
	return halves{l, h + x[low]*y[high] + x[high]*y[low]}
}

// Do is what an operation (+ - * /) makes of two numbers.
func Do(op string, a, b int) (int, api.Errno) {
	x, y := widen(a), widen(b)
	switch op {
	case "-":
		// A difference is a sum with the opposite, which has room even of the least number.
		y = opposite(y)
		fallthrough
	case "+":
		return narrow(sum(x, y))
	case "/":
		if b == 0 {
			return 0, api.ErrZero
		}
		if b != -1 {
			return a / b, api.OK
		}
		// By -1 alone can a quotient be too great, and there it is a product.
		fallthrough
	case "*":
		return narrow(product(x, y))
	}
	return 0, api.ErrArg
}

// Holds tells whether a comparison (== <) holds of two numbers.
func Holds(op string, a, b int) (bool, api.Errno) {
	switch op {
	case "==":
		return a == b, api.OK
	case "<":
		return a < b, api.OK
	}
	return false, api.ErrArg
}

// Is tells whether a text is one of Do's operations, and whether it is one of Holds's comparisons.
func Is(op string) (bool, bool) {
	switch op {
	case "+", "-", "*", "/":
		return true, false
	case "==", "<":
		return false, true
	}
	return false, false
}
