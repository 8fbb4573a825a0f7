package quantity_test

import (
	"math"
	"strconv"
	"strings"
	"testing"

	"arrayarchive/api"
	"arrayarchive/quantity"
)

func unit(factor string, powers ...int) api.Unit {
	u := api.Unit{Factor: factor, Offset: "0"}
	copy(u.Powers[:], powers)
	return u
}

func parse(t *testing.T, s string) api.Unit {
	t.Helper()
	u, e := quantity.ParseUnit(s)
	if e != api.OK {
		t.Fatalf("ParseUnit(%q): error %d", s, e)
	}
	return u
}

func expectUnit(t *testing.T, name string, u api.Unit, e api.Errno, want api.Unit) {
	t.Helper()
	if u != want || e != api.OK {
		t.Errorf("%s: %v, error %d, want %v", name, u, e, want)
	}
}

func expectUnitError(t *testing.T, name string, u api.Unit, e, want api.Errno) {
	t.Helper()
	if u != (api.Unit{}) || e != want {
		t.Errorf("%.60s: %v, error %d, want %d", name, u, e, want)
	}
}

var celsius = api.Unit{Factor: "1", Offset: "5463/20", Powers: [7]int{3: 1}}
var fahrenheit = api.Unit{Factor: "5/9", Offset: "45967/180", Powers: [7]int{3: 1}}

// prefixed are the units of the symbols in front of which a prefix may stand; alone are those of the others.
var prefixed = map[string]api.Unit{
	"m": unit("1", 1), "g": unit("1/1000", 0, 1), "s": unit("1", 0, 0, 1), "K": unit("1", 0, 0, 0, 1), "mol": unit("1", 0, 0, 0, 0, 1), "A": unit("1", 0, 0, 0, 0, 0, 1), "cd": unit("1", 0, 0, 0, 0, 0, 0, 1),
	"t": unit("1000", 0, 1), "L": unit("1/1000", 3), "Hz": unit("1", 0, 0, -1), "N": unit("1", 1, 1, -2), "Pa": unit("1", -1, 1, -2), "J": unit("1", 2, 1, -2), "W": unit("1", 2, 1, -3), "bar": unit("100000", -1, 1, -2),
}

var alone = map[string]api.Unit{"min": unit("60", 0, 0, 1), "h": unit("3600", 0, 0, 1), "d": unit("86400", 0, 0, 1), "degC": celsius, "degF": fahrenheit}

var prefixes = map[string]string{"n": "1/1000000000", "u": "1/1000000", "m": "1/1000", "c": "1/100", "d": "1/10", "h": "100", "k": "1000", "M": "1000000", "G": "1000000000"}

// badUnits are not valid; each breaks one rule.
var badUnits = []api.Unit{
	{}, {Factor: "1"}, {Offset: "0"}, {Factor: "0", Offset: "0"}, {Factor: "-1", Offset: "0"}, {Factor: "2/4", Offset: "0"}, {Factor: "x", Offset: "0"}, {Factor: "1", Offset: "-0"}, {Factor: "1", Offset: "00"}, {Factor: nines + "0", Offset: "0"}, {Factor: "1", Offset: nines + "0"},
	unit("1", 13), unit("1", -13), unit("1", 0, 0, 0, 0, 0, 0, 13), unit("1", 0, math.MaxInt), unit("1", 0, 0, math.MinInt),
}

// P1.6

func TestSymbols(t *testing.T) {
	for name, want := range alone {
		u, e := quantity.ParseUnit(name)
		expectUnit(t, name, u, e, want)
	}
	for name, want := range prefixed {
		u, e := quantity.ParseUnit(name)
		expectUnit(t, name, u, e, want)
	}
}

func TestPrefixes(t *testing.T) {
	for prefix, value := range prefixes {
		for name, base := range prefixed {
			want := base
			want.Factor = quantity.Mul(value, base.Factor)
			u, e := quantity.ParseUnit(prefix + name)
			expectUnit(t, prefix+name, u, e, want)
		}
		for name := range alone {
			if prefix+name == "cd" { // a symbol, not a prefix and d
				continue
			}
			u, e := quantity.ParseUnit(prefix + name)
			expectUnitError(t, prefix+name, u, e, api.ErrUnit)
		}
		for _, s := range []string{prefix + "kg", prefix + prefix + "m", prefix + "2m"} {
			u, e := quantity.ParseUnit(s)
			expectUnitError(t, s, u, e, api.ErrUnit)
		}
	}
}

func TestUnitTexts(t *testing.T) {
	for s, want := range map[string]api.Unit{
		"1": unit("1"), "7": unit("7"), "007": unit("7"), "0.50": unit("1/2"), "6/4": unit("3/2"), "1 1": unit("1"), "1/1": unit("1"), nines: unit(nines), "1/" + nines: unit("1/" + nines),
		"km/h": unit("5/18", 1, 0, -1), "kg m^-1 s^-2": unit("1", -1, 1, -2), "m/s/s": unit("1", 1, 0, -2), "m/s^2": unit("1", 1, 0, -2), "m/s^-2": unit("1", 1, 0, 2), "m/s kg": unit("1", 1, 1, -1), "m s^-2": unit("1", 1, 0, -2),
		"mm^2": unit("1/1000000", 2), "km^-2": unit("1/1000000", -2), "kPa^2": unit("1000000", -2, 2, -4), "L^2": unit("1/1000000", 6), "min^-1": unit("1/60", 0, 0, -1), "g^12": unit("1/1000000000000000000000000000000000000", 0, 12),
		"2/3 m/2": unit("1/3", 1), "m/2/3": unit("3/2", 1), "m/" + nines + "/10": unit("10/"+nines, 1), "m/2/3/4": unit("3/8", 1), "2/3/4": unit("1/6"), "1.5/2": unit("3/4"), "2/3/1.5": unit("4/9"), "2/m": unit("2", -1), "m/0.5": unit("2", 1), "12/m/4": unit("3", -1), "m 2": unit("2", 1), "m/60 s": unit("1/60", 1, 0, 1),
		"m^0": unit("1"), "m^-0": unit("1"), "m^00012": unit("1", 12), "m^-012": unit("1", -12), "m^12 m^12/m^12": unit("1", 12), "m^12 m m^-1": unit("1", 12), "Pa^12 s^12 kg^-1": unit("1", -12, 11, -12), "mm^12": unit("1/1000000000000000000000000000000000000", 12),
		"Gm^12/Gs^12": unit("1", 12, 0, -12), "m m m m m m m m m m m m": unit("1", 12), "1 2 3 4 5 6 7 8 9 10 11 12": unit("479001600"), "mmol": unit("1/1000", 0, 0, 0, 0, 1), "dcd": unit("1/10", 0, 0, 0, 0, 0, 0, 1), "Mm": unit("1000000", 1), "m^" + strings.Repeat("0", 997) + "2": unit("1", 2),
	} {
		u, e := quantity.ParseUnit(s)
		expectUnit(t, s, u, e, want)
	}
}

// P1.7

func TestValidUnit(t *testing.T) {
	good := []api.Unit{unit("1"), celsius, fahrenheit, unit("1/"+nines, 12, -12, 12, -12, 12, -12, 12), {Factor: "7/2", Offset: "-" + nines}}
	for _, u := range good {
		if !quantity.ValidUnit(u) {
			t.Errorf("ValidUnit(%v) is false", u)
		}
	}
	for _, u := range badUnits {
		if quantity.ValidUnit(u) {
			t.Errorf("ValidUnit(%v) is true", u)
		}
	}
}

func TestParseUnitErrors(t *testing.T) {
	long := strings.Repeat(" m", api.MaxText/2)
	for s, want := range map[string]api.Errno{
		"": api.ErrUnit, " ": api.ErrUnit, "/": api.ErrUnit, " m": api.ErrUnit, "m ": api.ErrUnit, "/m": api.ErrUnit, "m/": api.ErrUnit, "m  s": api.ErrUnit, "m//s": api.ErrUnit, "m /s": api.ErrUnit, "m/ s": api.ErrUnit, "m*s": api.ErrUnit, "m\ts": api.ErrUnit, "m\n": api.ErrUnit, "\u00b5m": api.ErrUnit, "\xff": api.ErrUnit,
		"x": api.ErrUnit, "M": api.ErrUnit, "k": api.ErrUnit, "kg2": api.ErrUnit, "2m": api.ErrUnit, "2/3m": api.ErrUnit, "m2": api.ErrUnit, "kmin": api.ErrUnit, "mmin": api.ErrUnit, "kkm": api.ErrUnit, "dd": api.ErrUnit, "kd": api.ErrUnit, "hh": api.ErrUnit, "KM": api.ErrUnit, "pa": api.ErrUnit, "m_": api.ErrUnit,
		"m^": api.ErrUnit, "m^-": api.ErrUnit, "m^+2": api.ErrUnit, "m^--2": api.ErrUnit, "m^1/2^2": api.ErrUnit, "m^1.5": api.ErrUnit, "m^ 2": api.ErrUnit, "m ^2": api.ErrUnit, "m^2^2": api.ErrUnit, "2^2": api.ErrUnit, "10^3 m": api.ErrUnit, "^2": api.ErrUnit, "m^n": api.ErrUnit,
		"0": api.ErrUnit, "0 m": api.ErrUnit, "m/0": api.ErrUnit, "0.0 m": api.ErrUnit, "0/5": api.ErrUnit, "5/0": api.ErrUnit, "-1": api.ErrUnit, "-1 m": api.ErrUnit, "+1 m": api.ErrUnit, "1. m": api.ErrUnit, ".5 m": api.ErrUnit, "2/3.5": api.ErrUnit, "1.5.5": api.ErrUnit, "1e3 m": api.ErrUnit, nines + "0 m": api.ErrUnit, "1/" + nines + "1": api.ErrUnit, "m/" + nines + "0": api.ErrUnit,
		"degC/s": api.ErrUnit, "degC^1": api.ErrUnit, "degF^0": api.ErrUnit, "degC^-1": api.ErrUnit, "1/degC": api.ErrUnit, "degC degC": api.ErrUnit, "2 degF": api.ErrUnit, "degF 1": api.ErrUnit, "m degC": api.ErrUnit, "degC/1": api.ErrUnit, "kdegC": api.ErrUnit, "degK": api.ErrUnit, "degC ": api.ErrUnit,
		"m^13": api.ErrLimit, "m^-13": api.ErrLimit, "m/s^13": api.ErrLimit, "m^13/m^13": api.ErrLimit, "m^" + strings.Repeat("9", 900): api.ErrLimit, "m^-18446744073709551616": api.ErrLimit, "m^12 m": api.ErrLimit, "m^-12/m": api.ErrLimit, "L^5": api.ErrLimit, "Pa^12": api.ErrLimit, "1/m^13": api.ErrLimit,
		"m m m m m m m m m m m m m": api.ErrLimit, "1 1 1 1 1 1 1 1 1 1 1 1 1": api.ErrLimit, "m/m/m/m/m/m/m/m/m/m/m/m/m": api.ErrLimit, long[1:]: api.ErrLimit,
		"Gm^12": api.ErrLimit, "nm^5": api.ErrLimit, nines + " 10": api.ErrLimit, "m/" + nines + " 10/10/10": api.ErrLimit,
		"m^13 x": api.ErrUnit, "m^13 0": api.ErrUnit, "m^13 degC": api.ErrUnit, "m m m m m m m m m m m m m ": api.ErrUnit, nines + " 10 x": api.ErrUnit,
		strings.Repeat("x", api.MaxText): api.ErrUnit, strings.Repeat("x", api.MaxText+1): api.ErrLimit, "m^" + strings.Repeat("0", api.MaxText): api.ErrLimit,
	} {
		u, e := quantity.ParseUnit(s)
		expectUnitError(t, "ParseUnit of "+strconv.Quote(s), u, e, want)
	}
}

func TestFormatUnit(t *testing.T) {
	for want, u := range map[string]api.Unit{
		"1": unit("1"), "7": unit("7"), "2/3": unit("2/3"), "m": unit("1", 1), "m^-1": unit("1", -1), "5/18 m s^-1": unit("5/18", 1, 0, -1), "1000 kg^2": unit("1000", 0, 2),
		"m^2 kg^3 s^4 K^5 mol^6 A^7 cd^8": unit("1", 2, 3, 4, 5, 6, 7, 8), "m kg s K mol A cd": unit("1", 1, 1, 1, 1, 1, 1, 1), "3 cd^-12": unit("3", 0, 0, 0, 0, 0, 0, -12), "1/" + nines + " m^12": unit("1/"+nines, 12),
	} {
		if s, e := quantity.FormatUnit(u); s != want || e != api.OK {
			t.Errorf("FormatUnit(%v): %q, error %d, want %q", u, s, e, want)
		}
	}
	for _, u := range append(badUnits, celsius, fahrenheit, api.Unit{Factor: "1", Offset: "-1"}) {
		if s, e := quantity.FormatUnit(u); s != "" || e != api.ErrUnit {
			t.Errorf("FormatUnit(%v): %q, error %d", u, s, e)
		}
	}
}

// P1.8

func TestTimesOverPower(t *testing.T) {
	kmh, newton := parse(t, "km/h"), parse(t, "N")
	u, e := quantity.Times(kmh, newton)
	expectUnit(t, "Times", u, e, unit("5/18", 2, 1, -3))
	u, e = quantity.Over(kmh, newton)
	expectUnit(t, "Over", u, e, unit("5/18", 0, -1, 1))
	u, e = quantity.Over(newton, kmh)
	expectUnit(t, "Over", u, e, unit("18/5", 0, 1, -1))
	u, e = quantity.Over(kmh, kmh)
	expectUnit(t, "Over", u, e, unit("1"))
	for n, want := range map[int]api.Unit{0: unit("1"), 1: kmh, -1: unit("18/5", -1, 0, 1), 3: unit("125/5832", 3, 0, -3), -2: unit("324/25", -2, 0, 2), 12: unit("244140625/1156831381426176", 12, 0, -12)} {
		u, e = quantity.Power(kmh, n)
		expectUnit(t, "Power "+strconv.Itoa(n), u, e, want)
	}
	u, e = quantity.Power(unit("1", 12, -12), -1)
	expectUnit(t, "Power", u, e, unit("1", -12, 12))
	u, e = quantity.Times(unit(nines), unit("1/"+nines))
	expectUnit(t, "Times", u, e, unit("1"))
}

func TestTimesOverPowerErrors(t *testing.T) {
	one := unit("1")
	offset := api.Unit{Factor: "1", Offset: "1/2"}
	for _, bad := range append(badUnits, celsius, offset) {
		for _, other := range []api.Unit{one, bad, unit(nines, 12)} {
			u, e := quantity.Times(bad, other)
			expectUnitError(t, "Times", u, e, api.ErrUnit)
			u, e = quantity.Times(other, bad)
			expectUnitError(t, "Times", u, e, api.ErrUnit)
			u, e = quantity.Over(bad, other)
			expectUnitError(t, "Over", u, e, api.ErrUnit)
			u, e = quantity.Over(other, bad)
			expectUnitError(t, "Over", u, e, api.ErrUnit)
		}
		for _, n := range []int{0, 1, -1, 13, math.MinInt} {
			u, e := quantity.Power(bad, n)
			expectUnitError(t, "Power", u, e, api.ErrUnit)
		}
	}
	for _, n := range []int{13, -13, math.MaxInt, math.MinInt} {
		u, e := quantity.Power(unit(nines, 12), n)
		expectUnitError(t, "Power", u, e, api.ErrArg)
	}
	limits := func(name string, u api.Unit, e api.Errno) {
		t.Helper()
		expectUnitError(t, name, u, e, api.ErrLimit)
	}
	u, e := quantity.Times(unit("1", 0, 7), unit("1", 0, 6))
	limits("Times of powers", u, e)
	u, e = quantity.Over(unit("1", 0, -7), unit("1", 0, 6))
	limits("Over of powers", u, e)
	u, e = quantity.Power(unit("1", 0, 0, 5), 3)
	limits("Power of powers", u, e)
	u, e = quantity.Power(unit("1", 0, 0, 5), -3)
	limits("Power of powers", u, e)
	u, e = quantity.Times(unit(nines), unit("2"))
	limits("Times of factors", u, e)
	u, e = quantity.Over(unit("1/"+nines), unit("2"))
	limits("Over of factors", u, e)
	u, e = quantity.Power(unit("10000"), 10)
	limits("Power of a factor", u, e)
	u, e = quantity.Power(unit("10000"), -10)
	limits("Power of a factor", u, e)
}

// P1.9

func TestSame(t *testing.T) {
	units := []api.Unit{unit("1"), unit("2"), unit("1", 1), unit("1", 0, 1), celsius, fahrenheit, unit("1", 0, 0, 0, 1)}
	for i, u := range units {
		for j, v := range units {
			if quantity.Same(u, v) != (i == j) {
				t.Errorf("Same(%v, %v)", u, v)
			}
		}
	}
	for _, u := range badUnits {
		if quantity.Same(u, u) || quantity.Same(u, unit("1")) || quantity.Same(unit("1"), u) {
			t.Errorf("Same(%v)", u)
		}
	}
	if !quantity.Same(parse(t, "Pa"), parse(t, "kg m^-1 s^-2")) {
		t.Error("Pa is not kg m^-1 s^-2")
	}
}

func TestConvert(t *testing.T) {
	long := api.Unit{Factor: nines, Offset: "-" + nines}
	for _, c := range []struct {
		x        string
		from, to api.Unit
		want     string
	}{
		{"20", celsius, fahrenheit, "68"}, {"68", fahrenheit, celsius, "20"}, {"-40", celsius, fahrenheit, "-40"}, {"0", celsius, unit("1", 0, 0, 0, 1), "5463/20"}, {"0", unit("1", 0, 0, 0, 1), celsius, "-5463/20"},
		{"36", parse(t, "km/h"), parse(t, "m/s"), "10"}, {"1/3", unit("1"), unit("1"), "1/3"}, {nines, unit("10"), unit("10"), nines}, {nines, unit("10"), unit("1"), ""}, {"1/" + nines, unit("1"), unit("2"), ""}, {nines, long, long, nines}, {"1", long, unit("1"), "0"}, {"0", unit(nines), unit("1"), "0"},
		{"", unit("1"), unit("2"), ""}, {"01", unit("1"), unit("1"), ""}, {"x", unit("1"), unit("1"), ""}, {nines + "0", unit("1"), unit("10"), ""},
	} {
		if x, e := quantity.Convert(c.x, c.from, c.to); x != c.want || e != api.OK {
			t.Errorf("Convert(%q, %v, %v): %q, error %d, want %q", c.x, c.from, c.to, x, e, c.want)
		}
	}
}

func TestConvertErrors(t *testing.T) {
	for _, x := range []string{"1", "", "x"} {
		for _, bad := range badUnits {
			for _, pair := range [][2]api.Unit{{bad, unit("1", 2)}, {unit("1", 2), bad}, {bad, bad}} {
				if y, e := quantity.Convert(x, pair[0], pair[1]); y != "" || e != api.ErrUnit {
					t.Errorf("Convert(%q, %v): %q, error %d", x, pair, y, e)
				}
			}
		}
		if y, e := quantity.Convert(x, parse(t, "km"), parse(t, "s")); y != "" || e != api.ErrMatch {
			t.Errorf("Convert(%q) from km to s: %q, error %d", x, y, e)
		}
	}
}

// sampleUnits returns valid units, most of them plain.
func sampleUnits() []api.Unit {
	r := newRandom()
	var units []api.Unit
	for i := range 400 {
		u := unit(strings.TrimPrefix(sample(r, 1+i%20), "-"))
		if i%2 == 0 {
			u.Factor = quantity.FromInt(1 + r.IntN(9))
		}
		if u.Factor == "0" {
			continue
		}
		for range r.IntN(4) {
			u.Powers[r.IntN(7)] = r.IntN(25) - 12
		}
		if i%10 == 9 {
			u.Offset = sample(r, 5)
		}
		units = append(units, u)
	}
	return units
}

// P1.12

func TestUnitLaws(t *testing.T) {
	units := sampleUnits()
	for i, u := range units {
		if s, e := quantity.FormatUnit(u); e == api.OK {
			v, e := quantity.ParseUnit(s)
			expectUnit(t, s, v, e, u)
		} else if u.Offset == "0" {
			t.Errorf("FormatUnit(%v): error %d", u, e)
		}
		v := units[(i*7+3)%len(units)]
		product, e := quantity.Times(u, v)
		if other, f := quantity.Times(v, u); product != other || e != f {
			t.Errorf("Times of %v and %v: %v, %d, and %v, %d", u, v, product, e, other, f)
		}
		if e != api.OK {
			continue
		}
		back, e := quantity.Over(product, v)
		expectUnit(t, "Over of Times", back, e, u)
		if square, e := quantity.Times(u, u); e == api.OK {
			power, e := quantity.Power(u, 2)
			expectUnit(t, "Power 2", power, e, square)
		}
	}
}

// P1.13

func TestConversions(t *testing.T) {
	r := newRandom()
	made := 0
	for i := range 1000 {
		var units [3]api.Unit
		for j := range units {
			units[j] = api.Unit{Factor: quantity.FromInt(1 + r.IntN(1000)), Offset: sample(r, 4), Powers: [7]int{1, -2}}
		}
		x := sample(r, 1+i%10)
		to := func(x string, i, j int) string {
			y, e := quantity.Convert(x, units[i], units[j])
			if e != api.OK {
				t.Fatalf("Convert: error %d", e)
			}
			return y
		}
		there, third := to(x, 0, 1), to(x, 0, 2)
		if there == "" || third == "" {
			continue
		}
		made++
		expect(t, "Convert there and back", to(there, 1, 0), x)
		if by := to(third, 2, 1); by != "" {
			expect(t, "Convert by way of a third unit", by, there)
		}
	}
	if made == 0 {
		t.Error("all values are missing")
	}
}

// R1

func TestAnyText(t *testing.T) {
	r := newRandom()
	for range 20000 {
		b := make([]byte, r.IntN(12))
		for i := range b {
			b[i] = "0123-/.^ mkgdePaCsh\x00\xff"[r.IntN(21)]
		}
		s := string(b)
		x, e := quantity.Parse(s)
		if (e == api.OK) != quantity.Valid(x) || quantity.Valid(s) && x != s {
			t.Fatalf("Parse(%q): %q, %d", s, x, e)
		}
		u, e := quantity.ParseUnit(s)
		if (e == api.OK) != quantity.ValidUnit(u) {
			t.Fatalf("ParseUnit(%q): %v, %d", s, u, e)
		}
		for _, o := range operations() {
			if y := o.of(s, s); y != "" && !quantity.Valid(s) {
				t.Fatalf("%s of %q: %q", o.name, s, y)
			}
		}
	}
}
