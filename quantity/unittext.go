package quantity

import (
	"arrayarchive/api"
	"arrayarchive/long"
)

// factor is a factor of a text of a unit.
type factor struct {
	value    long.Rat // of the number, or of the symbol with its prefix
	powers   [7]int   // those of the symbol
	exponent int
}

// ParseUnit returns the unit of a text.
func ParseUnit(s string) (api.Unit, api.Errno) {
	if len(s) > api.MaxText {
		return api.Unit{}, api.ErrLimit
	}
	// The units with an offset stand alone, so they are whole texts and no symbols of factors.
	switch s {
	case "degC":
		return api.Unit{Factor: "1", Offset: "5463/20", Powers: [7]int{kelvin: 1}}, api.OK
	case "degF":
		return api.Unit{Factor: "5/9", Offset: "45967/180", Powers: [7]int{kelvin: 1}}, api.OK
	}
	factors, ok := scanFactors(s)
	if !ok {
		return api.Unit{}, api.ErrUnit
	}
	if len(factors) > api.MaxFactors {
		return api.Unit{}, api.ErrLimit
	}
	return product(factors)
}

func product(factors []factor) (api.Unit, api.Errno) {
	value := long.Int(1)
	var powers [7]int
	for _, f := range factors {
		if !isPower(f.exponent) {
			return api.Unit{}, api.ErrLimit
		}
		value = value.Mul(f.value.Power(f.exponent))
		for i, n := range f.powers {
			powers[i] += n * f.exponent
		}
	}
	return plain(value, powers)
}

// scanFactors returns the factors of a text of a unit, and whether it has the form of one.
func scanFactors(s string) ([]factor, bool) {
	var factors []factor
	direction := 1
	for {
		f, n := scanFactor(s)
		if n == 0 {
			return nil, false
		}
		f.exponent *= direction
		factors = append(factors, f)
		if n == len(s) {
			return factors, true
		}
		switch s[n] {
		case ' ':
			direction = 1
		case '/':
			direction = -1
		default:
			return nil, false
		}
		s = s[n+1:]
	}
}

// scanFactor returns the factor at the beginning of s and its length, which is 0 if there is none.
func scanFactor(s string) (factor, int) {
	if countDigits(s) > 0 {
		return scanNumber(s)
	}
	return scanSymbol(s)
}

func scanNumber(s string) (factor, int) {
	n := countDigits(s)
	if n < len(s) && (s[n] == '.' || s[n] == '/') {
		if more := countDigits(s[n+1:]); more > 0 {
			n += 1 + more
		}
	}
	x, e := Parse(s[:n])
	if e != api.OK || x == "0" {
		return factor{}, 0
	}
	return factor{value: known(x), exponent: 1}, n
}

func scanSymbol(s string) (factor, int) {
	n := countLetters(s)
	f, ok := findWord(s[:n])
	if !ok {
		return factor{}, 0
	}
	f.exponent = 1
	if n < len(s) && s[n] == '^' {
		exponent, length := scanExponent(s[n+1:])
		if length == 0 {
			return factor{}, 0
		}
		f.exponent = exponent
		n += 1 + length
	}
	return f, n
}

// scanExponent returns the exponent at the beginning of s and its length, which is 0 if there is none. An exponent that is out of range remains so, but need not keep its value.
func scanExponent(s string) (int, int) {
	start, direction := 0, 1
	if s != "" && s[0] == '-' {
		start, direction = 1, -1
	}
	digits := countDigits(s[start:])
	if digits == 0 {
		return 0, 0
	}
	exponent := 0
	for i := start; i < start+digits && isPower(exponent); i++ {
		exponent = exponent*10 + int(s[i]-'0')
	}
	return direction * exponent, start + digits
}

func countDigits(s string) int {
	n := 0
	for n < len(s) && '0' <= s[n] && s[n] <= '9' {
		n++
	}
	return n
}

func countLetters(s string) int {
	n := 0
	for n < len(s) && ('a' <= s[n] && s[n] <= 'z' || 'A' <= s[n] && s[n] <= 'Z') {
		n++
	}
	return n
}

// findWord returns the factor of a symbol, or of a prefix and a symbol.
func findWord(word string) (factor, bool) {
	if s, ok := findSymbol(word); ok {
		return factor{value: known(s.value), powers: s.powers}, true
	}
	if word == "" {
		return factor{}, false
	}
	prefix := prefixValue(word[0])
	s, ok := findSymbol(word[1:])
	if !ok || !s.prefixed || prefix == "" {
		return factor{}, false
	}
	return factor{value: known(prefix).Mul(known(s.value)), powers: s.powers}, true
}

// known returns the number of a text that is one.
func known(x string) long.Rat {
	n, _ := long.Read(x)
	return n
}

// prefixValue returns the value of a prefix, or the missing value.
func prefixValue(prefix byte) string {
	switch prefix {
	case 'n':
		return "1/1000000000"
	case 'u':
		return "1/1000000"
	case 'm':
		return "1/1000"
	case 'c':
		return "1/100"
	case 'd':
		return "1/10"
	case 'h':
		return "100"
	case 'k':
		return "1000"
	case 'M':
		return "1000000"
	case 'G':
		return "1000000000"
	}
	return ""
}

// symbol is a symbol of a plain unit, with its value in base units.
type symbol struct {
	value    string
	powers   [7]int
	prefixed bool // whether a prefix may stand in front of it
}

func findSymbol(word string) (symbol, bool) {
	switch word {
	case "m":
		return symbol{"1", [7]int{meter: 1}, true}, true
	case "g":
		return symbol{"1/1000", [7]int{kilogram: 1}, true}, true
	case "s":
		return symbol{"1", [7]int{second: 1}, true}, true
	case "K":
		return symbol{"1", [7]int{kelvin: 1}, true}, true
	case "mol":
		return symbol{"1", [7]int{mole: 1}, true}, true
	case "A":
		return symbol{"1", [7]int{ampere: 1}, true}, true
	case "cd":
		return symbol{"1", [7]int{candela: 1}, true}, true
	case "min":
		return symbol{"60", [7]int{second: 1}, false}, true
	case "h":
		return symbol{"3600", [7]int{second: 1}, false}, true
	case "d":
		return symbol{"86400", [7]int{second: 1}, false}, true
	case "t":
		return symbol{"1000", [7]int{kilogram: 1}, true}, true
	case "L":
		return symbol{"1/1000", [7]int{meter: 3}, true}, true
	case "Hz":
		return symbol{"1", [7]int{second: -1}, true}, true
	case "N":
		return symbol{"1", [7]int{kilogram: 1, meter: 1, second: -2}, true}, true
	case "Pa":
		return symbol{"1", [7]int{kilogram: 1, meter: -1, second: -2}, true}, true
	case "J":
		return symbol{"1", [7]int{kilogram: 1, meter: 2, second: -2}, true}, true
	case "W":
		return symbol{"1", [7]int{kilogram: 1, meter: 2, second: -3}, true}, true
	case "bar":
		return symbol{"100000", [7]int{kilogram: 1, meter: -1, second: -2}, true}, true
	}
	return symbol{}, false
}
