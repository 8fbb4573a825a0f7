package long

import (
	"math"
	"math/big"
	"math/rand/v2"
	"strings"
	"testing"
)

// digits returns a text of n digits, the first one not 0, of which many are 0 or 9: carries and wrong guesses of quotients come from these.
func digits(r *rand.Rand, n int) string {
	b := make([]byte, n)
	for i := range b {
		b[i] = "0999123456780999"[r.IntN(16)]
	}
	if b[0] == '0' {
		b[0] = '9'
	}
	return string(b)
}

func sample(r *rand.Rand, length int) (Rat, *big.Rat) {
	s := digits(r, 1+r.IntN(length)) + "/" + digits(r, 1+r.IntN(length))
	if r.IntN(2) == 0 {
		s = "-" + s
	}
	if r.IntN(20) == 0 {
		s = "0"
	}
	x, ok := Read(s)
	want, _ := new(big.Rat).SetString(s)
	if !ok {
		panic(s)
	}
	return x, want
}

func check(t *testing.T, name string, x Rat, want *big.Rat) {
	t.Helper()
	if got, ok := x.Text(100000); got != want.RatString() || !ok {
		t.Fatalf("%s: %s, %v, want %s", name, got, ok, want.RatString())
	}
}

func TestOperations(t *testing.T) {
	r := rand.New(rand.NewPCG(1, 2))
	for i := range 3000 {
		length := 1 + i%150
		x, a := sample(r, length)
		y, b := sample(r, length)
		check(t, "Read", x, a)
		check(t, "Add", x.Add(y), new(big.Rat).Add(a, b))
		check(t, "Sub", x.Sub(y), new(big.Rat).Sub(a, b))
		check(t, "Mul", x.Mul(y), new(big.Rat).Mul(a, b))
		if b.Sign() != 0 {
			check(t, "Quo", x.Quo(y), new(big.Rat).Quo(a, b))
		}
		floor := new(big.Int).Div(a.Num(), a.Denom()) // Div rounds down where the divisor is positive
		check(t, "Floor", x.Floor(), new(big.Rat).SetInt(floor))
		if x.Sign() != a.Sign() {
			t.Fatalf("Sign of %s: %d", a, x.Sign())
		}
	}
}

func TestDivided(t *testing.T) {
	edges := []uint64{0, 1, 2, 1 << 63, 1<<63 - 1, 1<<63 + 1, math.MaxUint64, math.MaxUint64 - 1}
	r := rand.New(rand.NewPCG(3, 4))
	random := func(length int) natural {
		x := make(natural, r.IntN(length+1))
		for i := range x {
			x[i] = edges[r.IntN(len(edges))]
		}
		return x.trimmed()
	}
	for range 20000 {
		x, y := random(6), random(4)
		if y.isZero() {
			continue
		}
		quotient, rest := x.divided(y)
		if rest.compare(y) >= 0 || quotient.times(y).plus(rest).compare(x) != 0 {
			t.Fatalf("%v by %v: %v, %v", x, y, quotient, rest)
		}
	}
}

func TestPower(t *testing.T) {
	for _, base := range []string{"-3/7", "2", "1/99999999999999999999999", "-1"} {
		x, _ := Read(base)
		b, _ := new(big.Rat).SetString(base)
		want := big.NewRat(1, 1)
		for n := range 13 {
			check(t, base, x.Power(n), want)
			check(t, base, x.Power(-n), new(big.Rat).Inv(want))
			want = new(big.Rat).Mul(want, b)
		}
	}
	x, _ := Read("7/3")
	check(t, "Power keeps its number", x.Power(3).Mul(x), big.NewRat(2401, 81))
}

func TestTotal(t *testing.T) {
	r := rand.New(rand.NewPCG(5, 6))
	for n := range 20 {
		var l []Rat
		want := new(big.Rat)
		for range n {
			x, a := sample(r, 30)
			l = append(l, x)
			want.Add(want, a)
		}
		check(t, "Total", Total(l), want)
	}
}

// Numbers with the same denominator are added up first, wherever they are in the list, which stays as it is.
func TestTotalOfEqualDenominators(t *testing.T) {
	r := rand.New(rand.NewPCG(7, 8))
	for range 200 {
		var l []Rat
		var texts []string
		want := new(big.Rat)
		for range r.IntN(30) {
			a := big.NewRat(r.Int64N(2001)-1000, 1+r.Int64N(4))
			x, _ := Read(a.String())
			l = append(l, x)
			texts = append(texts, a.RatString())
			want.Add(want, a)
		}
		check(t, "Total", Total(l), want)
		for i, x := range l {
			if got, ok := x.Text(100); got != texts[i] || !ok {
				t.Fatalf("Total changes the number %d: %s, before %s", i, got, texts[i])
			}
		}
	}
}

func TestRead(t *testing.T) {
	for s, want := range map[string]string{
		"0": "0", "-0": "0", "000": "0", "-0.000": "0", "0/7": "0", "00012": "12", "-1.250": "-5/4", "6/4": "3/2", "10/05": "2", "0.1": "1/10",
		"18446744073709551615": "18446744073709551615", "18446744073709551616": "18446744073709551616", "10000000000000000000": "10000000000000000000", "100000000000000000000000000000000000000000000000000000000000": "100000000000000000000000000000000000000000000000000000000000",
		"36893488147419103232/18446744073709551616": "2",
	} {
		x, ok := Read(s)
		if !ok {
			t.Fatalf("Read(%q) fails", s)
		}
		if got, ok := x.Text(100); got != want || !ok {
			t.Errorf("Read(%q) is %q, %v", s, got, ok)
		}
	}
	for _, s := range []string{"", "-", "--1", "+1", ".", ".5", "5.", "/", "1/", "/1", "1/0", "1/00", "1//2", "1/2/3", "1.2.3", "1.2/3", "1/2.3", "1/-2", "1e3", " 1", "1 ", "0x1", "1_0", "\u0661", "\xff"} {
		if x, ok := Read(s); ok || x.top != nil || x.bottom != nil {
			t.Errorf("Read(%q): %v, %v", s, x, ok)
		}
	}
}

func TestInt(t *testing.T) {
	for _, n := range []int{0, 1, -1, math.MaxInt, math.MinInt} {
		check(t, "Int", Int(n), new(big.Rat).SetInt64(int64(n)))
	}
}

func TestTextTooLong(t *testing.T) {
	nines := strings.Repeat("9", 40)
	for s, want := range map[string]bool{nines: true, "-" + nines: true, "1/" + nines: true, nines + "0": false, "1" + nines: false, "1/1" + nines: false, "-1/1" + nines: false, nines + "000/1000": true, nines + "0/11": true, nines + "00/11": false} {
		x, _ := Read(s)
		if got, ok := x.Text(40); ok != want || (got != "") != want {
			t.Errorf("Text of %s: %q, %v", s, got, ok)
		}
	}
}
