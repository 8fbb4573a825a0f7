package quantity

import (
	"strconv"
	"strings"

	"arrayarchive/api"
	"arrayarchive/long"
)

// The places of the base units in the Powers of a unit.
const (
	meter = iota
	kilogram
	second
	kelvin
	mole
	ampere
	candela
)

// ValidUnit reports whether a unit is valid.
func ValidUnit(u api.Unit) bool {
	return isPositive(u.Factor) && Valid(u.Offset) && inRange(u.Powers)
}

func inRange(powers [7]int) bool {
	for _, n := range powers {
		if !isPower(n) {
			return false
		}
	}
	return true
}

func isPower(n int) bool {
	return -api.MaxPower <= n && n <= api.MaxPower
}

func isPlain(u api.Unit) bool {
	return ValidUnit(u) && u.Offset == "0"
}

// plain returns the plain unit with this factor and these powers.
func plain(factor long.Rat, powers [7]int) (api.Unit, api.Errno) {
	f := text(factor)
	if f == "" || !inRange(powers) {
		return api.Unit{}, api.ErrLimit
	}
	return api.Unit{Factor: f, Offset: "0", Powers: powers}, api.OK
}

// FormatUnit returns a text of a plain unit, in base units.
func FormatUnit(u api.Unit) (string, api.Errno) {
	if !isPlain(u) {
		return "", api.ErrUnit
	}
	var words []string
	if u.Factor != "1" || u.Powers == [7]int{} {
		words = append(words, u.Factor)
	}
	for i, name := range [7]string{"m", "kg", "s", "K", "mol", "A", "cd"} {
		switch n := u.Powers[i]; n {
		case 0:
		case 1:
			words = append(words, name)
		default:
			words = append(words, name+"^"+strconv.Itoa(n))
		}
	}
	return strings.Join(words, " "), api.OK
}

// Times returns the product of two plain units.
func Times(u, v api.Unit) (api.Unit, api.Errno) {
	return combined(u, v, 1)
}

// Over returns the quotient of two plain units.
func Over(u, v api.Unit) (api.Unit, api.Errno) {
	return combined(u, v, -1)
}

// combined returns u times v to the power n.
func combined(u, v api.Unit, n int) (api.Unit, api.Errno) {
	if !isPlain(u) || !isPlain(v) {
		return api.Unit{}, api.ErrUnit
	}
	powers := u.Powers
	for i := range powers {
		powers[i] += v.Powers[i] * n
	}
	return plain(factorOf(u).Mul(factorOf(v).Power(n)), powers)
}

// Power returns a plain unit to the power n.
func Power(u api.Unit, n int) (api.Unit, api.Errno) {
	if !isPlain(u) {
		return api.Unit{}, api.ErrUnit
	}
	if !isPower(n) {
		return api.Unit{}, api.ErrArg
	}
	powers := u.Powers
	for i := range powers {
		powers[i] *= n
	}
	return plain(factorOf(u).Power(n), powers)
}

// factorOf returns the factor of a valid unit.
func factorOf(u api.Unit) long.Rat {
	n, _ := read(u.Factor)
	return n
}

// offsetOf returns the offset of a valid unit.
func offsetOf(u api.Unit) long.Rat {
	n, _ := read(u.Offset)
	return n
}

// Same reports whether two units are valid and equal.
func Same(u, v api.Unit) bool {
	return u == v && ValidUnit(u)
}

// Convert returns the value in the unit `to` of the value x in the unit `from`, or the missing value.
func Convert(x string, from, to api.Unit) (string, api.Errno) {
	if !ValidUnit(from) || !ValidUnit(to) {
		return "", api.ErrUnit
	}
	if from.Powers != to.Powers {
		return "", api.ErrMatch
	}
	n, ok := read(x)
	if !ok {
		return "", api.OK
	}
	base := factorOf(from).Mul(n).Add(offsetOf(from))
	return text(base.Sub(offsetOf(to)).Quo(factorOf(to))), api.OK
}
