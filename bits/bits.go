// Package bits is layer 1: whole numbers of 1 to 64 bits, and what the operations make of them. See shared/doc/01-bits.md.
package bits

import (
	"lathe/api"
)

// How an operation ends.
const (
	endNumber = 0
	endPoison = 1
	endUndef  = 2
	endNone   = 3
)

// Mask: the greatest number of a width.
func Mask(w int) uint64 {
	if !isWidth(w) {
		return 0
	}
	return ^uint64(0) >> uint(64-w)
}

// Signed: the number as one that may be below 0.
func Signed(w int, v uint64) int64 {
	if !isWidth(w) {
		return 0
	}
	rest := uint(64 - w)
	return int64(v<<rest) >> rest
}

// Apply: what an operation makes of two numbers; how it ends.
func Apply(op, w, flags int, a, b uint64) (uint64, int) {
	if op < api.Add || op > api.Sle || !isWidth(w) || flags&^Flags(op) != 0 {
		return 0, endNone
	}
	a, b = a&Mask(w), b&Mask(w)
	v, end := plain(op, w, a, b)
	if end != endNumber {
		return 0, end
	}
	if breaks(op, w, flags, a, b) {
		return 0, endPoison
	}
	return v, endNumber
}

// Convert: what a conversion makes of a number; whether there is such a one.
func Convert(op, from, to int, v uint64) (uint64, bool) {
	if !isWidth(from) || !isWidth(to) {
		return 0, false
	}
	switch {
	case op == api.Zext && from < to:
		return v & Mask(from), true
	case op == api.Sext && from < to:
		return uint64(Signed(from, v)) & Mask(to), true
	case op == api.Trunc && to < from:
		return v & Mask(to), true
	}
	return 0, false
}

// Flags: which flags an operation may have.
func Flags(op int) int {
	switch op {
	case api.Add, api.Sub, api.Mul, api.Shl:
		return api.Nsw | api.Nuw
	case api.Udiv, api.Sdiv, api.Lshr, api.Ashr:
		return api.Exact
	}
	return 0
}

func isWidth(w int) bool {
	return 1 <= w && w <= 64
}

// plain is the operation without flags, of two numbers of width w.
func plain(op, w int, a, b uint64) (uint64, int) {
	switch op {
	case api.Add:
		return (a + b) & Mask(w), endNumber
	case api.Sub:
		return (a - b) & Mask(w), endNumber
	case api.Mul:
		return (a * b) & Mask(w), endNumber
	case api.And:
		return a & b, endNumber
	case api.Or:
		return a | b, endNumber
	case api.Xor:
		return a ^ b, endNumber
	case api.Udiv, api.Urem:
		return divide(op, a, b)
	case api.Sdiv, api.Srem:
		return divideSigned(op, w, a, b)
	case api.Shl, api.Lshr, api.Ashr:
		return shift(op, w, a, b)
	}
	if holds(op, w, a, b) {
		return 1, endNumber
	}
	return 0, endNumber
}

func divide(op int, a, b uint64) (uint64, int) {
	if b == 0 {
		return 0, endUndef
	}
	if op == api.Udiv {
		return a / b, endNumber
	}
	return a % b, endNumber
}

func divideSigned(op, w int, a, b uint64) (uint64, int) {
	if b == 0 || a == leastSigned(w) && b == Mask(w) {
		return 0, endUndef
	}
	x, y := Signed(w, a), Signed(w, b)
	if op == api.Sdiv {
		return uint64(x/y) & Mask(w), endNumber
	}
	return uint64(x%y) & Mask(w), endNumber
}

func shift(op, w int, a, b uint64) (uint64, int) {
	if b >= uint64(w) {
		return 0, endPoison
	}
	switch op {
	case api.Shl:
		return a << b & Mask(w), endNumber
	case api.Lshr:
		return a >> b, endNumber
	}
	return uint64(Signed(w, a)>>b) & Mask(w), endNumber
}

// holds tells whether the comparison op is true of a and b.
func holds(op, w int, a, b uint64) bool {
	switch op {
	case api.Eq:
		return a == b
	case api.Ne:
		return a != b
	case api.Ult:
		return a < b
	case api.Ule:
		return a <= b
	case api.Slt:
		return Signed(w, a) < Signed(w, b)
	}
	return Signed(w, a) <= Signed(w, b)
}

// breaks tells whether a number that came of a and b isn't what one of the flags says of it.
func breaks(op, w, flags int, a, b uint64) bool {
	switch {
	case flags&api.Nuw != 0 && wraps(op, w, a, b):
		return true
	case flags&api.Nsw != 0 && wrapsSigned(op, w, a, b):
		return true
	}
	return flags&api.Exact != 0 && leavesRest(op, w, a, b)
}

// wraps tells whether the exact result isn't from 0 to the greatest number of the width.
func wraps(op, w int, a, b uint64) bool {
	switch op {
	case api.Add:
		return b > Mask(w)-a
	case api.Sub:
		return a < b
	case api.Mul:
		return exceeds(a, b, Mask(w))
	}
	return a > Mask(w)>>b
}

// wrapsSigned tells whether the exact result of the numbers, read with a sign, can't be read with a sign.
func wrapsSigned(op, w int, a, b uint64) bool {
	switch op {
	case api.Add:
		// Only a sum of two with one sign can be too great, and then it has the other sign.
		return isBelow(w, a) == isBelow(w, b) && isBelow(w, a+b) != isBelow(w, a)
	case api.Sub:
		return isBelow(w, a) != isBelow(w, b) && isBelow(w, a-b) != isBelow(w, a)
	case api.Mul:
		limit := leastSigned(w)
		if isBelow(w, a) == isBelow(w, b) {
			limit--
		}
		return exceeds(size(w, a), size(w, b), limit)
	}
	// Nothing was lost just if shifting back gives the number again.
	return Signed(w, a<<b)>>b != Signed(w, a)
}

// leavesRest tells whether a quotient, or what a shift to the right makes, was cut.
func leavesRest(op, w int, a, b uint64) bool {
	switch op {
	case api.Udiv:
		return a%b != 0
	case api.Sdiv:
		return Signed(w, a)%Signed(w, b) != 0
	}
	return a>>b<<b != a
}

// exceeds tells whether a times b is above limit; it divides, since the product may need more than 64 bits.
func exceeds(a, b, limit uint64) bool {
	return a != 0 && b > limit/a
}

// leastSigned is the number that is the least one, when read with a sign.
func leastSigned(w int) uint64 {
	return uint64(1) << uint(w-1)
}

// isBelow tells whether the number of width w is below 0, when read with a sign.
func isBelow(w int, v uint64) bool {
	return Signed(w, v) < 0
}

// size is how far from 0 a number is, when read with a sign; the least one's needs all bits of a uint64.
func size(w int, v uint64) uint64 {
	if isBelow(w, v) {
		return -uint64(Signed(w, v))
	}
	return v
}
