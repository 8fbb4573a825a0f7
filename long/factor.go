package long

import "math/bits"

// leadingBits is how many bits of a number stand for it in certainSteps: its sums fit in an int64.
const leadingBits = 62

// commonFactor returns the greatest common divisor of x and y, which are not both 0.
//
// It is Lehmer's way: many steps of Euclid's algorithm are found from the leading bits alone, and then taken at once.
func commonFactor(x, y natural) natural {
	if x.compare(y) < 0 {
		x, y = y, x
	}
	for len(y) > 1 {
		s := certainSteps(x, y)
		if s.b == 0 { // not even the first step is certain
			_, rest := x.divided(y)
			x, y = y, rest
		} else {
			x, y = combined(x, s.a, y, s.b), combined(x, s.c, y, s.d)
		}
	}
	if y.isZero() {
		return x
	}
	_, rest := x.dividedByLimb(y[0])
	return natural{commonDivisor(y[0], rest)}
}

// steps are steps of Euclid's algorithm: of x and y they make a*x + b*y and c*x + d*y. a and b never have the same sign, nor have c and d.
type steps struct {
	a, b, c, d int64
}

// certainSteps returns the first steps of Euclid's algorithm on x and y, as far as the leading bits of both say which they are; y is at most x.
func certainSteps(x, y natural) steps {
	cut := max(0, x.bitLength()-leadingBits)
	high, low := x.above(cut), y.above(cut)
	s := steps{a: 1, d: 1}
	// The bits below may be anything: a quotient is certain if it is the same at both ends of what x / y can be.
	for low+s.c != 0 && low+s.d != 0 {
		quotient := (high + s.a) / (low + s.c)
		if quotient != (high+s.b)/(low+s.d) {
			break
		}
		s = steps{s.c, s.d, s.a - quotient*s.c, s.b - quotient*s.d}
		high, low = low, high-quotient*low
	}
	return s
}

// combined returns a*x + b*y, which is not negative, of factors that have not the same sign.
func combined(x natural, a int64, y natural, b int64) natural {
	if b > 0 {
		return combined(y, b, x, a)
	}
	z := x.times(natural{uint64(a)}.trimmed())
	subtractFrom(z, y.times(natural{uint64(-b)}.trimmed()))
	return z.trimmed()
}

// bitLength returns the number of bits of x.
func (x natural) bitLength() int {
	if x.isZero() {
		return 0
	}
	last := len(x) - 1
	return last*64 + bits.Len64(x[last])
}

// above returns x / 2^at, rounded down, which has at most leadingBits bits.
func (x natural) above(at int) int64 {
	i, by := at/64, at%64
	if i >= len(x) {
		return 0
	}
	w := x[i] >> by
	if i+1 < len(x) {
		w |= x[i+1] << (64 - by)
	}
	return int64(w)
}
