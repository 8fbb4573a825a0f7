package quantity_test

import (
	"math"
	"math/big"
	"math/rand/v2"
	"slices"
	"strconv"
	"strings"
	"testing"

	"arrayarchive/api"
	"arrayarchive/quantity"
)

var nines = strings.Repeat("9", api.MaxDigits)

// notNumbers are strings that count as the missing value wherever a number is asked for.
var notNumbers = []string{
	"", "-", "-0", "00", "01", "-01", "+1", " 1", "1 ", "1.5", "1e3", "x", "/", "1/", "/2", "1/0", "0/1", "0/2", "1/1", "3/1", "2/4", "-2/4", "1/02", "01/2", "-0/3", "1/-2", "1//2", "1/2/3", "--1", "1_0", "0x1", "\u0661", "\xff", "1\n",
	nines + "0", "-" + nines + "0", "1/" + nines + "0", "1" + nines + "/3", strings.Repeat("1", 1<<20), "1/" + strings.Repeat("7", 1<<20),
}

var numbers = []string{
	"0", "1", "-1", "7", "-7", "1/2", "-1/2", "1/3", "2/3", "-5/6", "10", "100", "1/1000", "9/4", "-7/3", "12345678901234567890", "18446744073709551615", "18446744073709551616/3",
	"340282366920938463463374607431768211456", nines, "-" + nines, "1/" + nines, "-1/" + nines, "9999999999999999999999999999999999999998/" + nines, "-9999999999999999999999999999999999999998/" + nines,
}

// exact returns the number of a text, for comparison with the results of the package.
func exact(x string) *big.Rat {
	n, ok := new(big.Rat).SetString(x)
	if !ok {
		panic(x)
	}
	return n
}

// short returns the text of a number, or the missing value if it is too long.
func short(n *big.Rat) string {
	if len(strings.TrimPrefix(n.Num().String(), "-")) > api.MaxDigits || len(n.Denom().String()) > api.MaxDigits {
		return ""
	}
	return n.RatString()
}

func newRandom() *rand.Rand {
	return rand.New(rand.NewPCG(11, 12))
}

// sample returns a number whose numerator and denominator have at most so many digits.
func sample(r *rand.Rand, digits int) string {
	part := func() *big.Int {
		b := make([]byte, 1+r.IntN(digits))
		for i := range b {
			b[i] = byte('0' + r.IntN(10))
		}
		n, _ := new(big.Int).SetString(string(b), 10)
		return n
	}
	top, bottom := part(), part()
	if bottom.Sign() == 0 || r.IntN(3) == 0 {
		bottom.SetInt64(1)
	}
	if r.IntN(2) == 0 {
		top.Neg(top)
	}
	return new(big.Rat).SetFrac(top, bottom).RatString()
}

func expect(t *testing.T, name, got, want string) {
	t.Helper()
	if got != want {
		t.Errorf("%s: %q, want %q", name, got, want)
	}
}

// P1.1

func TestValid(t *testing.T) {
	for _, x := range numbers {
		if !quantity.Valid(x) {
			t.Errorf("Valid(%q) is false", x)
		}
	}
	for _, x := range notNumbers {
		if quantity.Valid(x) {
			t.Errorf("Valid(%.60q) is true", x)
		}
	}
}

func TestParse(t *testing.T) {
	for s, want := range map[string]string{
		"0": "0", "-0": "0", "-0.0": "0", "0/5": "0", "-0/5": "0", "007": "7", "-007/014": "-1/2", "-0.50": "-1/2", "6/4": "3/2", "12.25": "49/4", "-10/5": "-2", "1.0": "1", "0.001": "1/1000",
		nines: nines, "1/" + nines: "1/" + nines, nines + "0/10": nines, strings.Repeat("7", 500) + "/" + strings.Repeat("7", 499): "", strings.Repeat("7", 400) + "/" + strings.Repeat("7", 400): "1",
		"0." + strings.Repeat("0", 998): "0", "0.5" + strings.Repeat("0", 997): "1/2", strings.Repeat("0", 999) + "7": "7",
	} {
		x, e := quantity.Parse(s)
		if want == "" && (x != "" || e != api.ErrLimit) || want != "" && (x != want || e != api.OK) {
			t.Errorf("Parse(%.60q): %q, %d, want %q", s, x, e, want)
		}
	}
	for _, x := range numbers {
		if y, e := quantity.Parse(x); y != x || e != api.OK {
			t.Errorf("Parse(%q): %q, %d", x, y, e)
		}
	}
}

func TestParseErrors(t *testing.T) {
	for s, want := range map[string]api.Errno{
		"": api.ErrNumber, "-": api.ErrNumber, ".5": api.ErrNumber, "5.": api.ErrNumber, "1/0": api.ErrNumber, "1/000": api.ErrNumber, "0/0": api.ErrNumber, "1/-2": api.ErrNumber, "+1": api.ErrNumber, " 1": api.ErrNumber, "1 ": api.ErrNumber, "1.5/2": api.ErrNumber, "1/1.5": api.ErrNumber, "1e3": api.ErrNumber, "--1": api.ErrNumber, "1.-5": api.ErrNumber, "\u0661": api.ErrNumber,
		nines + "0": api.ErrLimit, "-" + nines + "0": api.ErrLimit, "1/" + nines + "7": api.ErrLimit, "0." + strings.Repeat("0", 40) + "1": api.ErrLimit,
		nines + "0/0": api.ErrNumber, nines + nines + "x": api.ErrNumber,
		strings.Repeat("x", api.MaxText): api.ErrNumber, strings.Repeat("x", api.MaxText+1): api.ErrLimit, strings.Repeat("0", api.MaxText+1): api.ErrLimit,
	} {
		if x, e := quantity.Parse(s); x != "" || e != want {
			t.Errorf("Parse(%.60q): %q, error %d, want %d", s, x, e, want)
		}
	}
}

func TestFromInt(t *testing.T) {
	for _, n := range []int{0, 1, -1, 12, -12, 1 << 53, math.MaxInt, math.MinInt} {
		expect(t, "FromInt", quantity.FromInt(n), strconv.Itoa(n))
		if !quantity.Valid(quantity.FromInt(n)) {
			t.Errorf("FromInt(%d) is not a number", n)
		}
	}
}

func TestInt(t *testing.T) {
	for _, n := range []int{0, 1, -1, 12, -12, 1<<53 - 1, 1 << 53, -1 << 53} {
		if got, ok := quantity.Int(strconv.Itoa(n)); got != n || !ok {
			t.Errorf("Int of %d: %d, %v", n, got, ok)
		}
	}
	for _, x := range slices.Concat(notNumbers, []string{"9007199254740993", "-9007199254740993", "9223372036854775807", "9223372036854775808", "1/2", "-4/3", nines}) {
		if n, ok := quantity.Int(x); n != 0 || ok {
			t.Errorf("Int(%.60q): %d, %v", x, n, ok)
		}
	}
}

// P1.2

type operation struct {
	name string
	of   func(x, y string) string
	want func(z, a, b *big.Rat) *big.Rat
}

func operations() []operation {
	return []operation{
		{"Add", quantity.Add, (*big.Rat).Add},
		{"Sub", quantity.Sub, (*big.Rat).Sub},
		{"Mul", quantity.Mul, (*big.Rat).Mul},
		{"Div", quantity.Div, func(z, a, b *big.Rat) *big.Rat {
			if b.Sign() == 0 {
				return exact(nines + "0")
			}
			return z.Quo(a, b)
		}},
	}
}

func TestOperations(t *testing.T) {
	r := newRandom()
	l := slices.Clone(numbers)
	for i := range 150 {
		l = append(l, sample(r, 1+i%api.MaxDigits))
	}
	missing := 0
	for _, o := range operations() {
		for _, x := range l {
			for _, y := range l {
				want := short(o.want(new(big.Rat), exact(x), exact(y)))
				if want == "" {
					missing++
				}
				if got := o.of(x, y); got != want {
					t.Fatalf("%s(%q, %q): %q, want %q", o.name, x, y, got, want)
				}
			}
		}
	}
	if missing == 0 {
		t.Error("no result was too long")
	}
}

func TestOperationsExamples(t *testing.T) {
	expect(t, "Add", quantity.Add("1/3", "1/6"), "1/2")
	expect(t, "Sub", quantity.Sub("1/3", "1/2"), "-1/6")
	expect(t, "Mul", quantity.Mul("-2/3", "9/4"), "-3/2")
	expect(t, "Div", quantity.Div("2/3", "-5/6"), "-4/5")
	expect(t, "Div by 0", quantity.Div("1", "0"), "")
	expect(t, "Div of 0 by 0", quantity.Div("0", "0"), "")
	expect(t, "41 digits", quantity.Add(nines, "1"), "")
	expect(t, "-41 digits", quantity.Sub("-"+nines, "1"), "")
	expect(t, "40 digits", quantity.Sub("-"+nines, "-1"), "-"+nines[1:]+"8")
	expect(t, "a long denominator", quantity.Div("1/"+nines, "2"), "")
	expect(t, "a denominator in lowest terms", quantity.Mul("1/"+nines, "9"), "1/"+strings.Repeat("1", api.MaxDigits))
}

func TestOperationsOnMissing(t *testing.T) {
	for _, o := range operations() {
		for _, x := range notNumbers {
			if o.of(x, "1") != "" || o.of("1", x) != "" || o.of(x, x) != "" || o.of(x, "0") != "" {
				t.Errorf("%s of %.60q is not missing", o.name, x)
			}
		}
	}
}

// P1.3

func TestCompare(t *testing.T) {
	for _, x := range numbers {
		for _, y := range numbers {
			if n, ok := quantity.Compare(x, y); n != exact(x).Cmp(exact(y)) || !ok {
				t.Errorf("Compare(%q, %q): %d, %v", x, y, n, ok)
			}
		}
	}
	for _, x := range notNumbers {
		for _, pair := range [][2]string{{x, "1"}, {"1", x}, {x, x}} {
			if n, ok := quantity.Compare(pair[0], pair[1]); n != 0 || ok {
				t.Errorf("Compare(%.60q, %.60q): %d, %v", pair[0], pair[1], n, ok)
			}
		}
	}
}

func floor(x *big.Rat) *big.Rat {
	return new(big.Rat).SetInt(new(big.Int).Div(x.Num(), x.Denom())) // Div rounds down where the divisor is positive
}

func TestFloor(t *testing.T) {
	for x, want := range map[string]string{"-7/3": "-3", "7/3": "2", "-2": "-2", "2": "2", "0": "0", "-1/2": "-1", "1/2": "0", "1/" + nines: "0", "-1/" + nines: "-1", nines + "/2": "4" + nines[1:]} {
		expect(t, "Floor of "+x, quantity.Floor(x), want)
	}
	r := newRandom()
	for i := range 500 {
		x := sample(r, 1+i%api.MaxDigits)
		expect(t, "Floor of "+x, quantity.Floor(x), short(floor(exact(x))))
	}
	for _, x := range notNumbers {
		expect(t, "Floor of no number", quantity.Floor(x), "")
	}
}

func TestRound(t *testing.T) {
	for _, c := range [][3]string{
		{"7/2", "1", "4"}, {"-7/2", "1", "-3"}, {"5", "3", "6"}, {"7", "5", "5"}, {"8", "5", "10"}, {"-8", "5", "-10"}, {"12", "1/2", "12"}, {"1/4", "1/2", "1/2"}, {"-1/4", "1/2", "0"}, {"1/3", "1/2", "1/2"}, {"0", "7", "0"}, {"3", "6", "6"}, {"-3", "6", "0"},
		{nines, "10", ""}, {"-" + nines, "10", ""}, {nines, "1", nines}, {"1/" + nines, "1", "0"}, {"1", "1/" + nines, "1"},
		{"1", "0", ""}, {"1", "-1", ""}, {"1", "", ""}, {"", "1", ""}, {"", "", ""}, {"1", "01", ""}, {"01", "1", ""}, {"1", "-1/2", ""},
	} {
		expect(t, "Round of "+c[0]+" with "+c[1], quantity.Round(c[0], c[1]), c[2])
	}
	r := newRandom()
	for i := range 1000 {
		x, step := sample(r, 1+i%api.MaxDigits), strings.TrimPrefix(sample(r, 1+i%7), "-")
		if step == "0" {
			continue
		}
		k := floor(new(big.Rat).Add(new(big.Rat).Quo(exact(x), exact(step)), big.NewRat(1, 2)))
		expect(t, "Round of "+x+" with "+step, quantity.Round(x, step), short(k.Mul(k, exact(step))))
	}
}

// P1.4

func TestSum(t *testing.T) {
	for _, c := range []struct {
		l    []string
		want string
	}{
		{nil, "0"}, {[]string{}, "0"}, {[]string{""}, "0"}, {[]string{"", ""}, "0"}, {[]string{"1/2", "", "1/2"}, "1"}, {[]string{"1/3", "1/6"}, "1/2"}, {[]string{"01", "2/4", "x", "3"}, "3"},
		{[]string{nines, "1", "-1"}, nines}, {[]string{nines, "1"}, ""}, {[]string{"-" + nines, "-1"}, ""}, {[]string{nines, nines, nines, "-" + nines, "-" + nines}, nines},
		{[]string{"1/" + nines, "1/9999999999999999999999999999999999999998"}, ""}, {[]string{"1/" + nines, "1/9999999999999999999999999999999999999998", "-1/" + nines}, "1/9999999999999999999999999999999999999998"},
	} {
		kept := slices.Clone(c.l)
		expect(t, "Sum of "+strings.Join(c.l, ", "), quantity.Sum(c.l), c.want)
		if !slices.Equal(kept, c.l) {
			t.Error("Sum changes its list")
		}
	}
	if got := quantity.Sum(notNumbers); got != "0" {
		t.Errorf("Sum of no numbers: %q", got)
	}
}

func TestSumOfMany(t *testing.T) {
	var steps, harmonic []string
	want := new(big.Rat)
	for i := 1; i <= api.MaxCells; i++ {
		steps = append(steps, quantity.Div("1", quantity.FromInt(i*(i+1))))
		harmonic = append(harmonic, quantity.Div("1", quantity.FromInt(i)))
		want.Add(want, big.NewRat(1, int64(i)))
	}
	expect(t, "a sum of steps", quantity.Sum(steps), "4096/4097")
	expect(t, "a harmonic sum", quantity.Sum(harmonic), short(want))
}

func TestSumOfLongDenominators(t *testing.T) {
	var l []string
	bottom := exact(nines).Num()
	for range api.MaxCells / 2 {
		l = append(l, "1/"+bottom.String(), "-1/"+bottom.String())
		bottom.Sub(bottom, big.NewInt(2))
	}
	l = append(l, "2/3")
	expect(t, "a sum that cancels out", quantity.Sum(l), "2/3")
}

// P1.5

func TestFits(t *testing.T) {
	bounds := map[int][2]string{
		api.TypeI8:  {"-128", "127"},
		api.TypeI16: {"-32768", "32767"},
		api.TypeI32: {"-2147483648", "2147483647"},
		api.TypeI64: {"-9223372036854775808", "9223372036854775807"},
	}
	for kind, b := range bounds {
		for x, want := range map[string]bool{b[0]: true, b[1]: true, quantity.Sub(b[0], "1"): false, quantity.Add(b[1], "1"): false, "": true, "0": true, "-1": true, "1/2": false, "-3/2": false, nines: false, "1/" + nines: false} {
			if quantity.Fits(kind, x) != want {
				t.Errorf("Fits(%d, %q) is not %v", kind, x, want)
			}
		}
	}
	for _, x := range append(numbers, "") {
		if !quantity.Fits(api.TypeNum, x) {
			t.Errorf("Fits(TypeNum, %q) is false", x)
		}
	}
	for kind := api.TypeI8; kind <= api.TypeNum; kind++ {
		for _, x := range notNumbers {
			if quantity.Fits(kind, x) != (x == "") {
				t.Errorf("Fits(%d, %.60q)", kind, x)
			}
		}
	}
	for _, kind := range []int{0, -1, api.TypeNum + 1, 9, math.MaxInt, math.MinInt} {
		for _, x := range []string{"", "0", "1/2", "x"} {
			if quantity.Fits(kind, x) {
				t.Errorf("Fits(%d, %q) is true", kind, x)
			}
		}
	}
}

// P1.10

func TestField(t *testing.T) {
	r := newRandom()
	add, mul := quantity.Add, quantity.Mul
	same := func(law, x, y string) {
		t.Helper()
		if x != "" && y != "" && x != y {
			t.Errorf("%s: %q, %q", law, x, y)
		}
	}
	for i := range 2000 {
		digits := 1 + i%12
		x, y, z := sample(r, digits), sample(r, digits), sample(r, digits)
		same("x + y = y + x", add(x, y), add(y, x))
		same("x y = y x", mul(x, y), mul(y, x))
		same("(x + y) + z = x + (y + z)", add(add(x, y), z), add(x, add(y, z)))
		same("(x y) z = x (y z)", mul(mul(x, y), z), mul(x, mul(y, z)))
		same("x (y + z) = x y + x z", mul(x, add(y, z)), add(mul(x, y), mul(x, z)))
		expect(t, "x + 0", add(x, "0"), x)
		expect(t, "x 1", mul(x, "1"), x)
		expect(t, "x - x", quantity.Sub(x, x), "0")
		expect(t, "x + y - y", quantity.Sub(add(x, y), y), x)
		if y != "0" {
			expect(t, "x / y y", mul(quantity.Div(x, y), y), x)
		}
	}
}

// P1.11

func TestSums(t *testing.T) {
	r := newRandom()
	for i := range 300 {
		var l []string
		for range r.IntN(12) {
			l = append(l, sample(r, 1+i%20))
			if r.IntN(4) == 0 {
				l = append(l, "")
			}
		}
		total := quantity.Sum(l)
		at := r.IntN(len(l) + 1)
		if a, b := quantity.Sum(l[:at]), quantity.Sum(l[at:]); a != "" && b != "" && total != "" {
			expect(t, "Add of the Sums of two parts", quantity.Add(a, b), total)
		}
		want := new(big.Rat)
		for _, x := range l {
			if x != "" {
				want.Add(want, exact(x))
			}
		}
		expect(t, "Sum", total, short(want))
		r.Shuffle(len(l), func(i, j int) { l[i], l[j] = l[j], l[i] })
		expect(t, "Sum in another order", quantity.Sum(l), total)
	}
}
