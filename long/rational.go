package long

import "slices"

// Rat is a rational number, not always in lowest terms: only its text is. It comes from Read, Int or another Rat; its zero value is no number.
type Rat struct {
	negative    bool // never for 0
	top, bottom natural
}

func signed(negative bool, top, bottom natural) Rat {
	return Rat{negative && !top.isZero(), top, bottom}
}

// Int returns the number n.
func Int(n int) Rat {
	size := uint64(n)
	if n < 0 {
		size = -size
	}
	return signed(n < 0, natural{size}.trimmed(), natural{1})
}

// Sign returns -1, 0 or 1.
func (x Rat) Sign() int {
	switch {
	case x.negative:
		return -1
	case x.top.isZero():
		return 0
	}
	return 1
}

func (x Rat) negated() Rat {
	return signed(!x.negative, x.top, x.bottom)
}

// Add returns x + y.
func (x Rat) Add(y Rat) Rat {
	a, b, bottom := x.top, y.top, x.bottom
	if x.bottom.compare(y.bottom) != 0 {
		a = a.times(y.bottom)
		b = b.times(x.bottom)
		bottom = bottom.times(y.bottom)
	}
	if x.negative == y.negative {
		return signed(x.negative, a.plus(b), bottom)
	}
	if a.compare(b) < 0 {
		return signed(y.negative, b.minus(a), bottom)
	}
	return signed(x.negative, a.minus(b), bottom)
}

// Sub returns x - y.
func (x Rat) Sub(y Rat) Rat {
	return x.Add(y.negated())
}

// Mul returns x * y.
func (x Rat) Mul(y Rat) Rat {
	return signed(x.negative != y.negative, x.top.times(y.top), x.bottom.times(y.bottom))
}

// Quo returns x / y; y is not 0.
func (x Rat) Quo(y Rat) Rat {
	return signed(x.negative != y.negative, x.top.times(y.bottom), x.bottom.times(y.top))
}

// Power returns x to the power n; x is not 0 if n is negative.
func (x Rat) Power(n int) Rat {
	if n < 0 {
		return Int(1).Quo(x).Power(-n)
	}
	return signed(x.negative && n%2 == 1, x.top.power(n), x.bottom.power(n))
}

// Floor returns the greatest integer that is not greater than x.
func (x Rat) Floor() Rat {
	quotient, rest := x.top.divided(x.bottom)
	if x.negative && !rest.isZero() {
		quotient = quotient.plus(natural{1})
	}
	return signed(x.negative, quotient, natural{1})
}

// Total returns the sum of all numbers of a list.
func Total(l []Rat) Rat {
	sorted := slices.Clone(l)
	slices.SortFunc(sorted, func(a, b Rat) int { return a.bottom.compare(b.bottom) })
	// Numbers with the same denominator are added up first: their sum has no longer one.
	parts := sorted[:0]
	for _, x := range sorted {
		last := len(parts) - 1
		if last >= 0 && parts[last].bottom.compare(x.bottom) == 0 {
			parts[last] = parts[last].Add(x)
		} else {
			parts = append(parts, x)
		}
	}
	return totalByHalves(parts)
}

// totalByHalves returns the sum of all numbers of a list. Halves of a list have denominators of similar lengths; one number after the other would meet an ever longer one.
func totalByHalves(l []Rat) Rat {
	switch len(l) {
	case 0:
		return Int(0)
	case 1:
		return l[0]
	}
	half := len(l) / 2
	return totalByHalves(l[:half]).Add(totalByHalves(l[half:]))
}
