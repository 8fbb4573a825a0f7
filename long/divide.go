package long

import (
	"math"
	"math/bits"
)

// divided returns the quotient and the remainder of x and y; y is not 0.
func (x natural) divided(y natural) (natural, natural) {
	if x.compare(y) < 0 {
		return nil, x
	}
	if len(y) == 1 {
		quotient, rest := x.dividedByLimb(y[0])
		return quotient, natural{rest}.trimmed()
	}
	shift := bits.LeadingZeros64(y[len(y)-1])
	rest := x.shifted(shift)
	divisor := y.shifted(shift)[:len(y)]
	quotient := make(natural, len(x)-len(y)+1)
	for i := len(quotient) - 1; i >= 0; i-- {
		quotient[i] = takeMultiple(rest[i:i+len(y)+1], divisor)
	}
	shiftBack(rest, shift)
	return quotient.trimmed(), rest.trimmed()
}

func (x natural) dividedByLimb(w uint64) (natural, uint64) {
	quotient := make(natural, len(x))
	var rest uint64
	for i := len(x) - 1; i >= 0; i-- {
		quotient[i], rest = bits.Div64(rest, x[i], w)
	}
	return quotient.trimmed(), rest
}

// takeMultiple subtracts from rest the greatest possible multiple of divisor, and says which one. The highest bit of divisor is set, rest has one limb more, and the answer fits in a limb.
func takeMultiple(rest, divisor natural) uint64 {
	n := len(divisor)
	guess := uint64(math.MaxUint64)
	if rest[n] < divisor[n-1] {
		guess, _ = bits.Div64(rest[n], rest[n-1], divisor[n-1])
	}
	// The highest limbs alone give a guess that is right or too great by at most 2.
	negative := subtractTimes(rest, divisor, guess)
	for negative {
		guess--
		negative = !addInto(rest, divisor)
	}
	return guess
}

// subtractTimes subtracts y * w from z, which has one limb more than y, and reports whether the result is negative.
func subtractTimes(z, y natural, w uint64) bool {
	var carry, c uint64
	for i, v := range y {
		high, low := bits.Mul64(v, w)
		low, c = bits.Add64(low, carry, 0)
		high += c
		z[i], c = bits.Sub64(z[i], low, 0)
		carry = high + c
	}
	z[len(y)], c = bits.Sub64(z[len(y)], carry, 0)
	return c == 1
}

// shifted returns x * 2^by, with one limb more than x; by is less than 64.
func (x natural) shifted(by int) natural {
	z := make(natural, len(x)+1)
	copy(z, x)
	for i := len(z) - 1; i > 0; i-- {
		z[i] = z[i]<<by | z[i-1]>>(64-by)
	}
	z[0] <<= by
	return z
}

// shiftBack makes z / 2^by of z; by is less than 64.
func shiftBack(z natural, by int) {
	last := len(z) - 1
	for i := range last {
		z[i] = z[i]>>by | z[i+1]<<(64-by)
	}
	z[last] >>= by
}

// lowest returns x / y in lowest terms, and true, if both terms have at most this many limbs; y is not 0.
//
// The convergents of the continued fraction of x / y are in lowest terms, do not become smaller, and the last one is x / y. So the search ends at the first one that is too long, however long x and y are.
func lowest(x, y natural, limbs int) (natural, natural, bool) {
	if len(x) == 1 && len(y) == 1 { // by far the most numbers, so they are made quickly
		divisor := commonDivisor(x[0], y[0])
		return natural{x[0] / divisor}, natural{y[0] / divisor}, true
	}
	top, lastTop := natural{1}, natural(nil)
	bottom, lastBottom := natural(nil), natural{1}
	for !y.isZero() {
		quotient, rest := x.divided(y)
		top, lastTop = quotient.times(top).plus(lastTop), top
		bottom, lastBottom = quotient.times(bottom).plus(lastBottom), bottom
		if len(top) > limbs || len(bottom) > limbs {
			return nil, nil, false
		}
		x, y = y, rest
	}
	return top, bottom, true
}

func commonDivisor(x, y uint64) uint64 {
	for y != 0 {
		x, y = y, x%y
	}
	return x
}
