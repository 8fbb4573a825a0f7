package long

import (
	"math"
	"math/big"
	"math/rand/v2"
	"strings"
	"testing"
)

// digits returns a text of n digits, the first one not 0, of which many are 0 or 9: carries and wrong guesses of quotients come from these.
func digits(r *rand.Rand, n int) string {
	b := make([]byte, n)
	for i := range b {
		b[i] = "0999123456780999"[r.IntN(16)]
	}
	if b[0] == '0' {
		b[0] = '9'
	}
	return string(b)
}

func sample(r *rand.Rand, length int) (Rat, *big.Rat) {
	s := digits(r, 1+r.IntN(length)) + "/" + digits(r, 1+r.IntN(length))
	if r.IntN(2) == 0 {
		s = "-" + s
	}
	if r.IntN(20) == 0 {
		s = "0"
	}
	x, ok := Read(s)
	want, _ := new(big.Rat).SetString(s)
	if !ok {
		panic(s)
	}
	return x, want
}

func check(t *testing.T, name string, x Rat, want *big.Rat) {
	t.Helper()
	if got, ok := x.Text(100000); got != want.RatString() || !ok {
		t.Fatalf("%s: %s, %v, want %s", name, got, ok, want.RatString())
	}
	if got := x.Exact(); got != want.RatString() {
		t.Fatalf("%s: %s, want %s", name, got, want.RatString())
	}
}

func TestOperations(t *testing.T) {
	r := rand.New(rand.NewPCG(1, 2))
	for i := range 3000 {
		length := 1 + i%150
		x, a := sample(r, length)
		y, b := sample(r, length)
		check(t, "Read", x, a)
		check(t, "Add", x.Add(y), new(big.Rat).Add(a, b))
		check(t, "Sub", x.Sub(y), new(big.Rat).Sub(a, b))
		check(t, "Mul", x.Mul(y), new(big.Rat).Mul(a, b))
		if b.Sign() != 0 {
			check(t, "Quo", x.Quo(y), new(big.Rat).Quo(a, b))
		}
		floor := new(big.Int).Div(a.Num(), a.Denom()) // Div rounds down where the divisor is positive
		check(t, "Floor", x.Floor(), new(big.Rat).SetInt(floor))
		if x.Sign() != a.Sign() {
			t.Fatalf("Sign of %s: %d", a, x.Sign())
		}
	}
}

func TestDivided(t *testing.T) {
	edges := []uint64{0, 1, 2, 1 << 63, 1<<63 - 1, 1<<63 + 1, math.MaxUint64, math.MaxUint64 - 1}
	r := rand.New(rand.NewPCG(3, 4))
	random := func(length int) natural {
		x := make(natural, r.IntN(length+1))
		for i := range x {
			x[i] = edges[r.IntN(len(edges))]
		}
		return x.trimmed()
	}
	for range 20000 {
		x, y := random(6), random(4)
		if y.isZero() {
			continue
		}
		quotient, rest := x.divided(y)
		if rest.compare(y) >= 0 || quotient.times(y).plus(rest).compare(x) != 0 {
			t.Fatalf("%v by %v: %v, %v", x, y, quotient, rest)
		}
	}
}

func TestPower(t *testing.T) {
	for _, base := range []string{"-3/7", "2", "1/99999999999999999999999", "-1"} {
		x, _ := Read(base)
		b, _ := new(big.Rat).SetString(base)
		want := big.NewRat(1, 1)
		for n := range 13 {
			check(t, base, x.Power(n), want)
			check(t, base, x.Power(-n), new(big.Rat).Inv(want))
			want = new(big.Rat).Mul(want, b)
		}
	}
	x, _ := Read("7/3")
	check(t, "Power keeps its number", x.Power(3).Mul(x), big.NewRat(2401, 81))
}

func TestTotal(t *testing.T) {
	r := rand.New(rand.NewPCG(5, 6))
	for n := range 20 {
		var l []Rat
		want := new(big.Rat)
		for range n {
			x, a := sample(r, 30)
			l = append(l, x)
			want.Add(want, a)
		}
		check(t, "Total", Total(l), want)
	}
}

// Numbers with the same denominator are added up first, wherever they are in the list, which stays as it is.
func TestTotalOfEqualDenominators(t *testing.T) {
	r := rand.New(rand.NewPCG(7, 8))
	for range 200 {
		var l []Rat
		var texts []string
		want := new(big.Rat)
		for range r.IntN(30) {
			a := big.NewRat(r.Int64N(2001)-1000, 1+r.Int64N(4))
			x, _ := Read(a.String())
			l = append(l, x)
			texts = append(texts, a.RatString())
			want.Add(want, a)
		}
		check(t, "Total", Total(l), want)
		for i, x := range l {
			if got, ok := x.Text(100); got != texts[i] || !ok {
				t.Fatalf("Total changes the number %d: %s, before %s", i, got, texts[i])
			}
		}
	}
}

func TestRead(t *testing.T) {
	for s, want := range map[string]string{
		"0": "0", "-0": "0", "000": "0", "-0.000": "0", "0/7": "0", "00012": "12", "-1.250": "-5/4", "6/4": "3/2", "10/05": "2", "0.1": "1/10",
		"18446744073709551615": "18446744073709551615", "18446744073709551616": "18446744073709551616", "10000000000000000000": "10000000000000000000", "100000000000000000000000000000000000000000000000000000000000": "100000000000000000000000000000000000000000000000000000000000",
		"36893488147419103232/18446744073709551616": "2",
	} {
		x, ok := Read(s)
		if !ok {
			t.Fatalf("Read(%q) fails", s)
		}
		if got, ok := x.Text(100); got != want || !ok {
			t.Errorf("Read(%q) is %q, %v", s, got, ok)
		}
	}
	for _, s := range []string{"", "-", "--1", "+1", ".", ".5", "5.", "/", "1/", "/1", "1/0", "1/00", "1//2", "1/2/3", "1.2.3", "1.2/3", "1/2.3", "1/-2", "1e3", " 1", "1 ", "0x1", "1_0", "\u0661", "\xff"} {
		if x, ok := Read(s); ok || x.top != nil || x.bottom != nil {
			t.Errorf("Read(%q): %v, %v", s, x, ok)
		}
	}
}

func TestInt(t *testing.T) {
	for _, n := range []int{0, 1, -1, math.MaxInt, math.MinInt} {
		check(t, "Int", Int(n), new(big.Rat).SetInt64(int64(n)))
	}
}

func TestTextTooLong(t *testing.T) {
	nines := strings.Repeat("9", 40)
	for s, want := range map[string]bool{nines: true, "-" + nines: true, "1/" + nines: true, nines + "0": false, "1" + nines: false, "1/1" + nines: false, "-1/1" + nines: false, nines + "000/1000": true, nines + "0/11": true, nines + "00/11": false} {
		x, _ := Read(s)
		if got, ok := x.Text(40); ok != want || (got != "") != want {
			t.Errorf("Text of %s: %q, %v", s, got, ok)
		}
	}
}

func checkExact(t *testing.T, above, below *big.Int) {
	t.Helper()
	x, ok := Read(above.String() + "/" + below.String())
	want := new(big.Rat).SetFrac(above, below).RatString()
	if got := x.Exact(); got != want || !ok {
		t.Fatalf("Exact of %.300s / %.300s: %.300s, want %.300s", above, below, got, want)
	}
}

func TestExact(t *testing.T) {
	r := rand.New(rand.NewPCG(9, 10))
	natural := func(length int) *big.Int {
		n, _ := new(big.Int).SetString(digits(r, 1+r.IntN(length)), 10)
		return n
	}
	for i := range 4000 {
		a, b, factor := natural(1+i%200), natural(1+i*7%200), natural(1+i*3%150)
		if r.IntN(2) == 0 {
			a.Neg(a)
		}
		checkExact(t, a, b)
		checkExact(t, new(big.Int).Mul(a, factor), new(big.Int).Mul(b, factor))
		checkExact(t, new(big.Int).Mul(a, factor), factor)
		checkExact(t, new(big.Int), b)
		checkExact(t, new(big.Int).Add(b, big.NewInt(1)), b)
	}
}

// Quotients that are all 1, or all as large as a limb, and numbers with long rows of equal bits.
func TestExactEdges(t *testing.T) {
	for _, quotient := range []*big.Int{big.NewInt(1), big.NewInt(2), new(big.Int).SetUint64(math.MaxUint64), new(big.Int).Lsh(big.NewInt(1), 64), new(big.Int).Lsh(big.NewInt(1), 200)} {
		x, y := big.NewInt(1), big.NewInt(1)
		for i := 0; x.BitLen() < 2500; i++ {
			x, y = new(big.Int).Add(new(big.Int).Mul(x, quotient), y), x
			checkExact(t, x, y)
			checkExact(t, y, x)
			if i%4 == 0 {
				factor := new(big.Int).Lsh(big.NewInt(3), uint(i%300))
				checkExact(t, new(big.Int).Mul(x, factor), new(big.Int).Mul(y, factor))
			}
		}
	}
	power := func(n int) *big.Int { return new(big.Int).Lsh(big.NewInt(1), uint(n)) }
	for i := range 260 {
		for _, k := range []int{0, 1, 61, 62, 63, 64, 65, 127, 128, 129, 192, 300} {
			for _, more := range []int64{-1, 0, 1} {
				a := new(big.Int).Add(power(i+2), big.NewInt(more))
				for _, less := range []int64{-1, 0, 1} {
					checkExact(t, a, new(big.Int).Add(power(k+2), big.NewInt(less)))
				}
			}
		}
	}
}

// The text of a number of 200000 digits takes no more than seconds.
func TestExactOfMany(t *testing.T) {
	r := rand.New(rand.NewPCG(11, 12))
	a, _ := new(big.Int).SetString(digits(r, 60000), 10)
	b, _ := new(big.Int).SetString(digits(r, 60000), 10)
	factor, _ := new(big.Int).SetString(digits(r, 40000), 10)
	checkExact(t, new(big.Int).Mul(a, factor), new(big.Int).Mul(b, factor))
}
