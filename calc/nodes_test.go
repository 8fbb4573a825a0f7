package calc_test

import (
	"fmt"
	"slices"
	"strings"
	"testing"

	"arrayarchive/api"
	"arrayarchive/calc"
	"arrayarchive/schema"
)

// fixed returns the schema of the world and data that are easy to compute with. The dates of /t are 1 January, 31 January, 1 February, 1 December of the year 0 and 1 January of the year 1; those of /g/t are 31 December 1999, 29 February 2000, 1 March 2000, 1 March 2001 and again 31 December 1999.
func fixed(t *testing.T) (api.Schema, []api.Data) {
	t.Helper()
	return schemaOf(t, worldText), []api.Data{
		{Path: "/", Name: "a", A: of([]int{5, 3}, "1 2 3 4 5 6 7 8 9 10 11 12 13 14 15")},
		{Path: "/", Name: "b", A: of([]int{3}, "10 _ 30")},
		{Path: "/", Name: "c", A: of(nil, "20")},
		{Path: "/", Name: "d", A: of([]int{3}, "1 2 3")},
		{Path: "/", Name: "f", A: of([]int{3}, "32 212 _")},
		{Path: "/", Name: "k", A: of([]int{5}, "1000 2000 3000 _ 5000")},
		{Path: "/", Name: "o", A: of([]int{2, 3}, "1 2 3 4 5 6")},
		{Path: "/", Name: "q", A: of([]int{0, 3}, "")},
		{Path: "/", Name: "s", A: of([]int{5}, "1 2 3 4 5")},
		{Path: "/", Name: "t", A: of([]int{5}, "0 30 31 334 365")},
		{Path: "/", Name: "v", A: of([]int{5}, "1 _ 3 0 -5")},
		{Path: "/", Name: "w", A: of([]int{3, 5}, "1 2 3 4 5 6 7 8 9 10 11 12 13 14 15")},
		{Path: "/", Name: "z", A: of([]int{0}, "")},
		{Path: "/g", Name: "a", A: of([]int{5, 2}, "1 2 3 4 5 6 7 8 9 10")},
		{Path: "/g", Name: "k", A: of([]int{2}, "1 2")},
		{Path: "/g", Name: "t", A: of([]int{5}, "730484 730544 730545 730910 730484")},
		{Path: "/g/h", Name: "b", A: of([]int{2, 5, 3}, "1 2 3 4 5 6 7 8 9 10 11 12 13 14 15 16 17 18 19 20 21 22 23 24 25 26 27 28 29 30")},
		{Path: "/g/h", Name: "u", A: of(nil, "7")},
	}
}

type row struct {
	text, dims, unit string
	shape            []int
	vals             string
}

// checkRows compares Infer, Value, Tile of everything, and Run by single elements with what rows say.
func checkRows(t *testing.T, s api.Schema, data []api.Data, rows []row) {
	t.Helper()
	for _, x := range rows {
		want := api.Shaped{Dims: strings.Fields(x.dims), Sizes: x.shape, Unit: unitOf(t, x.unit)}
		if got, errno := calc.Infer(s, data, x.text); errno != api.OK || !sameShaped(got, want) {
			t.Errorf("Infer(%s) = %v, error %d, want %v", x.text, got, errno, want)
		}
		value := of(x.shape, x.vals)
		if got, errno := calc.Value(s, data, x.text); errno != api.OK || !sameArray(got, value) {
			t.Errorf("Value(%s) = %s, error %d, want %s", x.text, showArray(got), errno, x.vals)
		}
		if got, errno := calc.Tile(s, data, x.text, full(x.shape)); errno != api.OK || !sameArray(got, value) {
			t.Errorf("Tile(%s) = %s, error %d, want %s", x.text, showArray(got), errno, x.vals)
		}
		sizes := slices.Repeat([]int{1}, len(x.shape))
		order := upTo(product(x.shape))
		slices.Reverse(order)
		if got, errno := calc.Run(s, data, x.text, sizes, order, 3); errno != api.OK || !sameArray(got, value) {
			t.Errorf("Run(%s) = %s, error %d, want %s", x.text, showArray(got), errno, x.vals)
		}
	}
}

// P7.3 and P7.4

func TestElements(t *testing.T) {
	s, data := fixed(t)
	checkRows(t, s, data, []row{
		// numbers and variables
		{"1.50", "", "1", nil, "3/2"},
		{"007", "", "1", nil, "7"},
		{"/c", "", "degC", nil, "20"},
		{"/g/h/u", "", "1", nil, "7"},
		{"/v", "t", "1", []int{5}, "1 _ 3 0 -5"},
		{"/d", "x", "km", []int{3}, "1 2 3"},
		{"/o", "month x", "1", []int{2, 3}, "1 2 3 4 5 6"},
		{"/q", "z x", "1", []int{0, 3}, ""},
		// one operand
		{"-/v", "t", "1", []int{5}, "-1 _ -3 0 5"},
		{"--/d", "x", "km", []int{3}, "1 2 3"},
		{"to(/d, \"m\")", "x", "m", []int{3}, "1000 2000 3000"},
		{"to(/c, \"degF\")", "", "degF", nil, "68"},
		{"to(/f, \"degC\")", "x", "degC", []int{3}, "0 100 _"},
		{"to(/v, \"1/2\")", "t", "1/2", []int{5}, "2 _ 6 0 -10"},
		{"to(/d, \"km\")", "x", "km", []int{3}, "1 2 3"},
		{"bare(/d)", "x", "1", []int{3}, "1 2 3"},
		{"bare(/c)", "", "1", nil, "20"},
		// broadcasting
		{"/v + 1", "t", "1", []int{5}, "2 _ 4 1 -4"},
		{"1 - /v", "t", "1", []int{5}, "0 _ -2 1 6"},
		{"/v * /b", "t x", "1", []int{5, 3}, "10 _ 30 _ _ _ 30 _ 90 0 _ 0 -50 _ -150"},
		{"/b * /v", "x t", "1", []int{3, 5}, "10 _ 30 0 -50 _ _ _ _ _ 30 _ 90 0 -150"},
		{"/a - /w", "t x", "1", []int{5, 3}, "0 -4 -8 2 -2 -6 4 0 -4 6 2 -2 8 4 0"},
		{"/w - /a", "x t", "1", []int{3, 5}, "0 -2 -4 -6 -8 4 2 0 -2 -4 8 6 4 2 0"},
		{"/a - /g/a", "t x y", "1", []int{5, 3, 2}, "0 -1 1 0 2 1 1 0 2 1 3 2 2 1 3 2 4 3 3 2 4 3 5 4 4 3 5 4 6 5"},
		{"/q + /v", "z x t", "1", []int{0, 3, 5}, ""},
		{"/v / /v", "t", "1", []int{5}, "1 _ 1 _ 1"},
		{"1/3 + /g/h/u", "", "1", nil, "22/3"},
		// units
		{"/d + /d", "x", "km", []int{3}, "2 4 6"},
		{"/d + to(/d, \"m\")", "x", "km", []int{3}, "2 4 6"},
		{"to(/d, \"m\") - /d", "x", "m", []int{3}, "0 0 0"},
		{"/d - /k", "x t", "km", []int{3, 5}, "0 -1 -2 _ -4 1 0 -1 _ -3 2 1 0 _ -2"},
		{"/k / /s", "t", "m/s", []int{5}, "1000 1000 1000 _ 1000"},
		{"/d * /d", "x", "km^2", []int{3}, "1 4 9"},
		{"/d / /d", "x", "1", []int{3}, "1 1 1"},
		{"/k / /g/k", "t y", "1", []int{5, 2}, "1000 500 2000 1000 3000 1500 _ _ 5000 2500"},
		{"2 * /d", "x", "km", []int{3}, "2 4 6"},
		{"1 / /s", "t", "s^-1", []int{5}, "1 1/2 1/3 1/4 1/5"},
		// operations 5 to 10
		{"lesser(/b, 15)", "x", "1", []int{3}, "10 _ 15"},
		{"greater(/b, 15)", "x", "1", []int{3}, "15 _ 30"},
		{"eq(/v, 3)", "t", "1", []int{5}, "0 _ 1 0 0"},
		{"lt(/v, 1)", "t", "1", []int{5}, "0 _ 0 1 1"},
		{"le(/v, 1)", "t", "1", []int{5}, "1 _ 0 1 1"},
		{"else(/v, 7)", "t", "1", []int{5}, "1 7 3 0 -5"},
		{"else(/b, /v)", "x t", "1", []int{3, 5}, "10 10 10 10 10 1 _ 3 0 -5 30 30 30 30 30"},
		{"lesser(/d, /k)", "x t", "km", []int{3, 5}, "1 1 1 _ 1 1 2 2 _ 2 1 2 3 _ 3"},
		{"greater(/k, /d)", "t x", "m", []int{5, 3}, "1000 2000 3000 2000 2000 3000 3000 3000 3000 _ _ _ 5000 5000 5000"},
		{"eq(/d, to(/d, \"cm\"))", "x", "1", []int{3}, "1 1 1"},
		{"le(/c, /f)", "x", "1", []int{3}, "0 1 _"},
		{"lt(/f, /c)", "x", "1", []int{3}, "1 0 _"},
		{"else(/f, /c)", "x", "degF", []int{3}, "32 212 68"},
		{"lesser(/c, /f)", "x", "degC", []int{3}, "0 20 _"},
		// where
		{"where(/v, /v, 9)", "t", "1", []int{5}, "1 _ 3 9 -5"},
		{"where(/v - 1, /v, 9)", "t", "1", []int{5}, "9 _ 3 0 -5"},
		{"where(1, /c, /f)", "x", "degC", []int{3}, "20 20 20"},
		{"where(0, /c, /f)", "x", "degC", []int{3}, "0 100 _"},
		{"where(/d, 1, 2)", "x", "1", []int{3}, "1 1 1"},
		{"where(lt(/d, /g/k * 1000), /d, to(/d, \"m\") * 10)", "x y", "km", []int{3, 2}, "10 1 20 20 30 30"},
		{"where(/v, /b, /g/k / /g/k)", "t x y", "1", []int{5, 3, 2}, "10 10 _ _ 30 30 _ _ _ _ _ _ 10 10 _ _ 30 30 1 1 1 1 1 1 10 10 _ _ 30 30"},
		{"where(0, /b, /v)", "x t", "1", []int{3, 5}, "1 _ 3 0 -5 1 _ 3 0 -5 1 _ 3 0 -5"},
	})
}

func TestAlong(t *testing.T) {
	s, data := fixed(t)
	checkRows(t, s, data, []row{
		// reductions
		{"sum(/v, t)", "", "1", nil, "-1"},
		{"mean(/v, t)", "", "1", nil, "-1/4"},
		{"min(/v, t)", "", "1", nil, "-5"},
		{"max(/v, t)", "", "1", nil, "3"},
		{"count(/v, t)", "", "1", nil, "4"},
		{"sum(/a, t)", "x", "1", []int{3}, "35 40 45"},
		{"max(/a, x)", "t", "1", []int{5}, "3 6 9 12 15"},
		{"sum(sum(/a, t), x)", "", "1", nil, "120"},
		{"sum(/d, x)", "", "km", nil, "6"},
		{"count(/d, x)", "", "1", nil, "3"},
		{"count(/f, x)", "", "1", nil, "2"},
		{"mean(/f, x)", "", "degF", nil, "122"},
		{"to(sum(/d, x), \"m\")", "", "m", nil, "6000"},
		{"sum(/q, z)", "x", "1", []int{3}, "0 0 0"},
		{"mean(/q, z)", "x", "1", []int{3}, "_ _ _"},
		{"count(/q, x)", "z", "1", []int{0}, ""},
		{"sum(/q + /v, z)", "x t", "1", []int{3, 5}, "0 0 0 0 0 0 0 0 0 0 0 0 0 0 0"},
		{"mean(/g/h/b, t)", "y x", "1", []int{2, 3}, "7 8 9 22 23 24"},
		// windows
		{"window(sum, /v, t, 1)", "t", "1", []int{5}, "1 0 3 0 -5"},
		{"window(sum, /v, t, 2)", "t", "1", []int{5}, "1 1 3 3 -5"},
		{"window(mean, /v, t, 3)", "t", "1", []int{5}, "1 1 2 3/2 -2/3"},
		{"window(min, /v, t, 1)", "t", "1", []int{5}, "1 _ 3 0 -5"},
		{"window(count, /k, t, 0004)", "t", "1", []int{5}, "1 2 3 3 3"},
		{"window(max, /k, t, 99999999999999999999)", "t", "m", []int{5}, "1000 2000 3000 3000 5000"},
		{"window(max, /f, x, 2)", "x", "degF", []int{3}, "32 212 212"},
		{"window(sum, /o, month, 2)", "month x", "1", []int{2, 3}, "1 2 3 5 7 9"},
		{"window(sum, /q, z, 2)", "z x", "1", []int{0, 3}, ""},
		// groups and cycles
		{"cycle(sum, /v, t, month)", "month", "1", []int{3}, "-4 3 0"},
		{"group(sum, /v, t, month)", "month", "1", []int{4}, "1 3 0 -5"},
		{"group(count, /k, t, year)", "year", "1", []int{2}, "3 1"},
		{"cycle(max, /k, t, season)", "season", "m", []int{1}, "5000"},
		{"group(max, /k, t, season)", "season", "m", []int{2}, "3000 5000"},
		{"cycle(min, /v, t, day)", "day", "1", []int{4}, "-5 _ 3 0"},
		{"group(count, /a, t, month)", "month x", "1", []int{4, 3}, "2 2 2 1 1 1 1 1 1 1 1 1"},
		{"cycle(sum, /w, t, month)", "x month", "1", []int{3, 3}, "8 3 4 23 8 9 38 13 14"},
		{"cycle(mean, /g/a, t, month)", "month y", "1", []int{3, 2}, "3 4 6 7 5 6"},
		{"cycle(sum, sum(/g/h/b, x), t, season)", "y season", "1", []int{2, 2}, "63 57 198 147"},
		{"group(sum, /q, z, day)", "day x", "1", []int{0, 3}, ""},
		{"sum(group(sum, /q, z, day), day)", "x", "1", []int{3}, "0 0 0"},
		{"group(sum, window(sum, /v, t, 2), t, year)", "year", "1", []int{2}, "8 -5"},
		{"window(sum, group(sum, /v, t, month), month, 2)", "month", "1", []int{4}, "1 4 3 -5"},
		// The origin of a dimension that both have is that of the first one.
		{"cycle(count, /v + sum(/g/a, y), t, month)", "month", "1", []int{3}, "2 1 1"},
		{"cycle(count, sum(/g/a, y) + /v, t, month)", "month", "1", []int{3}, "0 2 2"},
		{"cycle(count, where(sum(/g/a, y), /v, /v), t, month)", "month", "1", []int{3}, "0 2 2"},
		{"cycle(count, where(1, /v, sum(/g/a, y)), t, month)", "month", "1", []int{3}, "2 1 1"},
		{"cycle(count, where(1, sum(/g/a, y), /v), t, month)", "month", "1", []int{3}, "1 2 2"},
		// slices
		{"slice(/v, t, 0, 2, 2)", "t", "1", []int{2}, "1 3"},
		{"slice(/v, t, 4, 1, 1000000)", "t", "1", []int{1}, "-5"},
		{"slice(/v, t, 0, 1, 9999999999999)", "t", "1", []int{1}, "1"},
		{"slice(/v, t, 5, 0, 1)", "t", "1", []int{0}, ""},
		{"slice(/d, x, 1, 02, 1)", "x", "km", []int{2}, "2 3"},
		{"slice(/a, x, 2, 1, 1)", "t x", "1", []int{5, 1}, "3 6 9 12 15"},
		{"slice(slice(/s, t, 0, 3, 2), t, 1, 2, 1)", "t", "s", []int{2}, "3 5"},
		{"cycle(sum, slice(/s, t, 0, 3, 2), t, month)", "month", "s", []int{2}, "6 3"},
		{"group(sum, slice(slice(/s, t, 1, 4, 1), t, 0, 2, 3), t, month)", "month", "s", []int{2}, "2 5"},
		{"cycle(sum, slice(slice(/s, t, 1, 4, 1), t, 0, 2, 3), t, month)", "month", "s", []int{1}, "7"},
		{"cycle(sum, slice(window(max, slice(/s, t, 1, 4, 1), t, 1), t, 1, 2, 2) + 0 * slice(/s, t, 0, 2, 1), t, month)", "month", "s", []int{2}, "5 3"},
		{"sum(slice(/v, t, 0, 0, 1), t)", "", "1", nil, "0"},
		{"slice(/v, t, 0, 2, 1) + slice(/v, t, 2, 2, 1)", "t", "1", []int{2}, "4 _"},
	})
}

// TestResults: the result of each operation is one, with the digits of a number.
func TestResults(t *testing.T) {
	s, data := fixed(t)
	half := strings.Repeat("9", 20) // its square has 40 digits, the next power has more
	checkRows(t, s, data, []row{
		{half + " * " + half + " / " + half, "", "1", nil, half},
		{half + " * " + half + " * " + half + " / " + half, "", "1", nil, "_"},
		{nines + " + 1 - 1", "", "1", nil, "_"},
		{nines + " + (1 - 1)", "", "1", nil, nines},
		{"0." + strings.Repeat("0", 38) + "1", "", "1", nil, "1/1" + strings.Repeat("0", 39)},
		{"to(to(" + nines + ", \"1/1000\"), \"1\")", "", "1", nil, "_"},
		{"/d * 0 + " + nines + " * /d", "x", "km", []int{3}, nines + " _ _"},
		{"to(/d, \"m\") * 0 + " + nines + " * /d", "x", "m", []int{3}, "_ _ _"},
		{"mean(else(/v * 0, 0) + " + nines + ", t)", "", "1", nil, nines},
		{"sum(else(/v * 0, 0) + " + nines + ", t)", "", "1", nil, "_"},
	})
}

// checkErrors checks the error of Infer and Value for texts.
func checkErrors(t *testing.T, s api.Schema, data []api.Data, want api.Errno, texts ...string) {
	t.Helper()
	for _, text := range texts {
		if got, errno := calc.Infer(s, data, text); errno != want || !sameShaped(got, api.Shaped{}) {
			t.Errorf("Infer(%s) = %v, error %d, want %d", text, got, errno, want)
		}
		refusedByAll(t, s, data, text, want, false)
	}
}

func TestNodeErrors(t *testing.T) {
	s, data := fixed(t)
	check := func(want api.Errno, texts ...string) {
		t.Helper()
		checkErrors(t, s, data, want, texts...)
	}
	check(api.ErrExpr, nines+"0", "0."+strings.Repeat("0", 39)+"1", "1"+strings.Repeat("0", 39)+".1", strings.Repeat("9", 1000))
	check(api.ErrNone, "/none", "/x", "/g", "/g/h", "/g/h/a", "/none/a", "/h/b", "/g/v", "sum(/none, t)", "1 + /none", "/g/h/u/a")
	check(api.ErrDims, "sum(/v, x)", "sum(/c, t)", "mean(1, t)", "window(sum, /v, x, 1)", "group(sum, /v, x, day)", "cycle(sum, /v, months, day)", "slice(/v, x, 0, 1, 1)", "sum(sum(/v, t), t)", "cycle(sum, /v, t, month) + /o", "slice(/v, t, 0, 4, 1) + /v", "/v + slice(/v, t, 0, 4, 1)", "eq(/v, slice(/v, t, 0, 0, 1))", "count(/v, "+the17+")")
	// too many dimensions
	check(api.ErrDims, "/a + /g/a + /o + /q", "(/a + /g/a) * (/o + /q)", "where(/a, /g/a, /o + /q)", "where(/a + /g/a, /o, /q)", "where(/a, /g/a, 1) + /o + /q")
	check(api.ErrMatch, "/d + 1", "1 + /d", "/d - /s", "lesser(/d, /c)", "greater(/d, 1)", "eq(/d, 1)", "lt(1, /s)", "le(/c, 1)", "else(/d, 1)", "where(1, /d, 2)", "where(/d, 1, /d)", "to(/d, \"s\")", "to(1, \"m\")", "to(/d, \"1\")", "bare(/d) + /d", "/d * /d + /d", "/d + /c", "/c - 1", "count(/d, x) + sum(/d, x)")
	check(api.ErrUnit, "/c + /c", "/c - /f", "-/c", "/c * 2", "2 / /c", "/f / /f", "sum(/f, x)", "window(sum, /f, x, 1)", "to(/d, \"q\")", "to(/d, \"\")", "to(/d, \"degC/s\")", "to(/d, \"km \")", "/c + to(/c, \"K\")", "to(/c, \"K\") + /c", "-to(sum(to(/f, \"K\"), x), \"degC\")")
	check(api.ErrArg, "window(sum, /v, t, 0)", "window(max, /f, x, 000)", "slice(/v, t, 2, 2, 3)", "slice(/v, t, 0, 6, 1)", "slice(/v, t, 6, 0, 1)", "slice(/v, t, 5, 1, 1)", "slice(/v, t, 0, 1, 0)", "slice(/v, t, 0, 0, 0)", "slice(/v, t, 0, 99999999999999999999, 99999999999999999999)", "slice(/v, t, 18446744073709551616, 1, 1)", "slice(/v, t, 0, 18446744073709551617, 1)", "slice(/v, t, 0, 2, 18446744073709551617)", "slice(/q, z, 0, 1, 1)", "slice(slice(/v, t, 0, 2, 1), t, 2, 1, 1)")
	check(api.ErrLimit, "to(/d, \""+strings.Repeat("m ", 12)+"m\")", "to(1, \"m^13\")", strings.Repeat("/d*", 12)+"/d", "1"+strings.Repeat("//s", 13))
	check(api.ErrTime, "cycle(sum, /b, x, month)", "cycle(sum, /o, month, year)", "group(sum, cycle(sum, /v, t, month), month, year)", "cycle(sum, /v + slice(/b, x, 0, 1, 1), x, day)", "cycle(count, group(max, /k, t, day), day, day)")
}

// TestOwnErrors: of the errors of one node the chapter names one first.
func TestOwnErrors(t *testing.T) {
	s, data := fixed(t)
	check := func(want api.Errno, texts ...string) {
		t.Helper()
		checkErrors(t, s, data, want, texts...)
	}
	other := "slice(/f, x, 0, 2, 1)" // of another size and in another unit than /d
	check(api.ErrDims, "/d + "+other, "eq(/d, "+other+")", "where(1, /d, "+other+")", "/d * "+other, "/d / "+other, other+" * /f", "sum(/c, t)", "window(sum, /c, t, 0)", "window(sum, /v, x, 0)", "slice(/v, x, 9, 9, 0)", "group(sum, /f, t, day)", "cycle(sum, /c, x, month)")
	check(api.ErrMatch, "/c + 1", "1 - /c", "/c + /d")
	check(api.ErrUnit, "window(sum, /f, x, 0)", "group(sum, /f, x, day)", "cycle(sum, /f, x, month)", "/c * "+strings.Repeat("(/d*", 11)+"/d"+strings.Repeat(")", 11), "to(/d, \"q q q q q q q q q q q q q q\")")
	check(api.ErrTime, "group(sum, /o + /v, month, month)", "cycle(sum, /o, x, month)")
	check(api.ErrDims, "cycle(sum, /o + /v, t, month)", "group(max, /o + /k / /k, t, month)", "cycle(sum, cycle(sum, /a + /g/k / /g/k, t, year) + /v, t, year)")
	// A dimension may be called as the field by which it goes.
	check(api.ErrTime, "cycle(sum, /o, month, month)")
	// All combinations come before the units of a and b.
	check(api.ErrDims, "where(/b, slice(/d, x, 0, 2, 1), 1)", "where(/b, /d, slice(1 + /b, x, 0, 2, 1))", "where(slice(/b, x, 0, 2, 1), 1, /d)")
	check(api.ErrMatch, "where(/v, /d, 1)")
}

// TestOrderOfNodes: the errors of nodes come from left to right, those below first.
func TestOrderOfNodes(t *testing.T) {
	s, data := fixed(t)
	for text, want := range map[string]api.Errno{
		"/none + (/d + 1)": api.ErrNone, "(/d + 1) + /none": api.ErrMatch, "/d + 1 + /none": api.ErrMatch, "/d + (1 + /none)": api.ErrNone, "to(/none, \"q\")": api.ErrNone, "to(-/c, \"q\")": api.ErrUnit, "-to(/c, \"m\")": api.ErrMatch,
		"where(-/c, /none, 1 + /d)": api.ErrUnit, "where(1, /none, 1 + /d)": api.ErrNone, "where(1, 1 + /d, /none)": api.ErrMatch, "where(/none, sum(1, t), " + nines + "9)": api.ErrNone, "sum(/none, nothing)": api.ErrNone, "window(sum, /d + 1, nothing, 0)": api.ErrMatch, "slice(window(sum, /v, t, 0), nothing, 1, 1, 1)": api.ErrArg, "cycle(sum, slice(/v, x, 9, 9, 9), nothing, day)": api.ErrDims,
		"lesser(" + nines + "9, /none)": api.ErrExpr, "lesser(/none, " + nines + "9)": api.ErrNone, "cycle(sum, /b, x, day) + /none": api.ErrTime, "/none + cycle(sum, /b, x, day)": api.ErrNone, "sum(sum(1, t), t) * " + nines + "9": api.ErrDims, "bare(1 + /d) + (/none)": api.ErrMatch,
	} {
		checkErrors(t, s, data, want, text)
	}
}

const largeText = `group /
dim a 1024
dim b 64
dim c 4
dim e 1
dim f 0
dim g 1
var a num ( a c ) ( 1 1 ) 0 ""
var b num ( b ) ( 1 ) 0 ""
var c num ( c ) ( 1 ) 0 ""
var d num ( a ) ( 1024 ) 0 ""
var e num ( a c e g ) ( 1 1 1 1 ) 0 ""
var f num ( f ) ( 1 ) 0 ""
var g num ( a f b ) ( 1 1 1 ) 0 "degC"
var h num ( b c ) ( 1 1 ) 0 ""
`

// TestLargeDims: results have at most MaxCells elements, also on the way.
func TestLargeDims(t *testing.T) {
	s := schemaOf(t, largeText)
	for text, want := range map[string]api.Errno{
		"/a + /c": api.OK, "/c + /d": api.OK, "/e + /a": api.OK, "/f + /d + /b": api.OK, "/d + /f + /b": api.OK, "/d + (/f + /b)": api.OK, "max(max(/g, a), f)": api.OK, "max(max(/g, b), f)": api.OK, "/h * /h * sum(/e, a)": api.OK, "where(/f, /d, /b)": api.OK, "where(/d, /f, /b)": api.OK, "window(max, /g, f, 3)": api.OK, "slice(/g, f, 0, 0, 1)": api.OK,
		"/d + /b": api.ErrDims, "/d + /b + /f": api.ErrDims, "/d * /b * /f": api.ErrDims, "where(/d, /b, /f)": api.ErrDims, "/b + slice(/d, a, 0, 65, 1)": api.ErrDims, "/a + /b": api.ErrDims, "/e + /f": api.ErrDims, "max(/g, f)": api.ErrDims, "count(/g, f)": api.ErrDims, "sum(/g, f)": api.ErrUnit, "max(/g, e)": api.ErrDims, "/b + slice(/d, a, 0, 64, 1)": api.OK,
	} {
		if _, errno := calc.Infer(s, nil, text); errno != want {
			t.Errorf("Infer(%s): error %d, want %d", text, errno, want)
		}
	}
}

// TestLargeIntegers: integers up to 10^6 are what they are.
func TestLargeIntegers(t *testing.T) {
	s := schemaOf(t, largeText)
	a := api.Array{Shape: []int{1024}}
	for i := range 1024 {
		a.Vals = append(a.Vals, fmt.Sprint(i+1))
	}
	data := []api.Data{{Path: "/", Name: "d", A: a}}
	for text, want := range map[string]string{
		"slice(/d, a, 1000, 2, 23)": "1001 1024", "slice(/d, a, 0, 2, 1023)": "1 1024", "sum(slice(/d, a, 0, 1023, 1), a)": "523776", "slice(slice(/d, a, 1, 1022, 1), a, 1021, 1, 1000000)": "1023",
		"slice(window(sum, /d, a, 1000), a, 999, 2, 24)": "500500 524500", "slice(window(sum, /d, a, 1023), a, 1023, 1, 1)": "524799", "slice(window(sum, /d, a, 1000000), a, 1023, 1, 1)": "524800",
	} {
		if got, errno := calc.Value(s, data, text); errno != api.OK || strings.Join(got.Vals, " ") != want {
			t.Errorf("Value(%s) = %s, error %d, want %s", text, showArray(got), errno, want)
		}
	}
}

// TestOtherMonth: a dimension that is called as a field may be grouped by it.
func TestOtherMonth(t *testing.T) {
	s := schemaOf(t, "group /\ndim month 3\ndim x 2\nvar m num ( x month ) ( 1 1 ) none \"\"\nvar month i8 ( month ) ( 1 ) none \"\"\nvattr calendar \"360day\"\n")
	data := []api.Data{{Path: "/", Name: "m", A: of([]int{2, 3}, "1 2 3 4 5 6")}, {Path: "/", Name: "month", A: of([]int{3}, "0 100 29")}}
	checkRows(t, s, data, []row{{"cycle(sum, /m, month, month)", "x month", "1", []int{2, 2}, "4 2 10 5"}, {"cycle(sum, /m * /month, month, month)", "x month", "1", []int{2, 2}, "87 200 174 500"}})
	checkErrors(t, s, data, api.ErrTime, "cycle(sum, cycle(sum, /m, month, month), month, month)")
}

// timesText has a dimension for each way of having no times.
const timesText = `group /
dim a 2
dim b 2
dim c 2
dim d 2
dim e 2
dim f 2
dim g 0
dim h 0
dim i 2
dim j 2
dim k 2
var a num ( a ) ( 1 ) none ""
vattr calendar "noleap"
var b i32 ( b ) ( 1 ) none ""
var c i32 ( c ) ( 1 ) none ""
vattr calendar 1
var d i32 ( d ) ( 1 ) none ""
vattr calendar "NoLeap"
var e i32 ( e i ) ( 1 1 ) none ""
vattr calendar "noleap"
var f i32 ( i ) ( 1 ) none ""
vattr calendar "noleap"
var g i32 ( g ) ( 1 ) none ""
vattr calendar "julian"
var i i64 ( i ) ( 1 ) none "km"
vattr axis "noleap"
vattr base 1 2
vattr calendar "allleap"
vattr comment "days"
var k i32 ( k ) ( 1 ) none ""
vattr calendars "noleap"
var v num ( a b c d ) ( 1 1 1 1 ) none ""
var w num ( e f g h ) ( 1 1 1 1 ) none ""
var x num ( i j ) ( 1 1 ) none ""
var y num ( k ) ( 1 ) none ""
group /i
dim j 2
var i num ( i ) ( 1 ) none ""
var j i8 ( j ) ( 2 ) none ""
vattr calendar "gregorian"
var x num ( i j ) ( 1 1 ) none ""
`

// timesData returns data for timesText, with these values of /i.
func timesData(values string) []api.Data {
	return []api.Data{
		{Path: "/", Name: "a", A: of([]int{2}, "1 2")}, {Path: "/", Name: "b", A: of([]int{2}, "1 2")}, {Path: "/", Name: "c", A: of([]int{2}, "1 2")}, {Path: "/", Name: "d", A: of([]int{2}, "1 2")},
		{Path: "/", Name: "e", A: of([]int{2, 2}, "1 2 3 4")}, {Path: "/", Name: "f", A: of([]int{2}, "1 2")}, {Path: "/", Name: "g", A: of([]int{0}, "")}, {Path: "/", Name: "i", A: of([]int{2}, values)}, {Path: "/", Name: "k", A: of([]int{2}, "1 2")}, {Path: "/", Name: "y", A: of([]int{2}, "1 2")},
		{Path: "/", Name: "v", A: of([]int{2, 2, 2, 2}, "1 2 3 4 5 6 7 8 1 2 3 4 5 6 7 8")}, {Path: "/", Name: "w", A: of([]int{2, 2, 0, 0}, "")}, {Path: "/", Name: "x", A: of([]int{2, 2}, "1 2 3 4")},
		{Path: "/i", Name: "i", A: of([]int{2}, "1 2")}, {Path: "/i", Name: "j", A: of([]int{2}, "400 500")}, {Path: "/i", Name: "x", A: of([]int{2, 2}, "1 2 3 4")},
	}
}

func TestTimes(t *testing.T) {
	s := schemaOf(t, timesText)
	data := timesData("0 800")
	for text, want := range map[string]api.Errno{
		"group(sum, /v, a, day)": api.ErrTime, "group(sum, /v, b, day)": api.ErrTime, "group(sum, /v, c, day)": api.ErrTime, "group(sum, /v, d, day)": api.ErrTime, "cycle(sum, /w, e, month)": api.ErrTime, "cycle(sum, /w, f, month)": api.ErrTime, "cycle(sum, /w, h, month)": api.ErrTime, "cycle(sum, /x, j, year)": api.ErrTime, "cycle(sum, /y, k, year)": api.ErrTime,
		"cycle(sum, /w, g, month)": api.OK, "cycle(sum, /x, i, month)": api.OK, "cycle(sum, /i/x, i, month)": api.OK, "cycle(sum, /i/x, j, month)": api.OK, "cycle(sum, /i/j, j, month)": api.OK, "cycle(sum, /i/i, i, day)": api.OK, "group(sum, slice(/v, a, 0, 0, 1), a, day)": api.ErrTime, "cycle(sum, slice(/x, j, 0, 0, 1), j, year)": api.ErrTime,
	} {
		if _, errno := calc.Value(s, data, text); errno != want {
			t.Errorf("Value(%s): error %d, want %d", text, errno, want)
		}
		if _, errno := calc.Infer(s, data, text); errno != want {
			t.Errorf("Infer(%s): error %d, want %d", text, errno, want)
		}
	}
	checkRows(t, s, data, []row{{"group(sum, /i/x, j, year)", "i year", "1", []int{2, 1}, "3 7"}, {"group(sum, /i/x, i, year)", "year j", "1", []int{2, 2}, "1 2 3 4"}})
}

// TestTimeValues: all values at positions of the dimension, and no others, are dates.
func TestTimeValues(t *testing.T) {
	s := schemaOf(t, timesText)
	// The years of allleap have 366 days.
	for values, want := range map[string]api.Errno{
		"0 1": api.OK, "0 _": api.ErrTime, "0 1/2": api.ErrTime, "0 -1": api.OK, "0 3659999": api.OK, "0 3660000": api.ErrTime, "0 -3659634": api.OK, "0 -3659635": api.ErrTime, "0 9007199254740992": api.ErrTime, "0 9007199254740993": api.ErrTime, "0 18446744073709551616": api.ErrTime, "0 " + nines: api.ErrTime,
	} {
		data := timesData(values)
		checkTimeErrno(t, s, data, "cycle(count, /x, i, day)", want)
		checkTimeErrno(t, s, data, "group(sum, /x, i, season)", want)
		checkTimeErrno(t, s, data, "group(sum, slice(/x, i, 1, 1, 1), i, season)", want)
		checkTimeErrno(t, s, data, "group(sum, slice(/x, i, 0, 1, 1), i, season)", api.OK)
		checkTimeErrno(t, s, data, "group(sum, slice(/x, i, 0, 0, 1), i, season)", api.OK)
		checkTimeErrno(t, s, data, "sum(/x * /i, i)", api.OK)
	}
	data := timesData("0 1")
	without := func(name string) []api.Data {
		return slices.DeleteFunc(slices.Clone(data), func(d api.Data) bool { return d.Path == "/" && d.Name == name })
	}
	checkTimeErrno(t, s, without("i"), "cycle(count, /x, i, day)", api.ErrTime)
	checkTimeErrno(t, s, without("i"), "cycle(count, slice(/x, i, 0, 0, 1), i, day)", api.ErrTime)
	checkTimeErrno(t, s, without("g"), "cycle(count, /w, g, day)", api.ErrTime)
	checkTimeErrno(t, s, without("f"), "cycle(count, /x, i, day)", api.OK)
}

func checkTimeErrno(t *testing.T, s api.Schema, data []api.Data, text string, want api.Errno) {
	t.Helper()
	_, errno := calc.Value(s, data, text)
	_, inferErrno := calc.Infer(s, data, text)
	if errno != want || inferErrno != want {
		t.Errorf("Value(%s): error %d, Infer: error %d, want %d", text, errno, inferErrno, want)
	}
}

// TestNeeded: Infer, Used and PlanOf need the data of coordinates alone, the others those of all variables.
func TestNeeded(t *testing.T) {
	s, data := fixed(t)
	text := "cycle(sum, /a + /v, t, month) * /b"
	for _, d := range data {
		less := slices.DeleteFunc(slices.Clone(data), func(x api.Data) bool { return x.Path == d.Path && x.Name == d.Name })
		inferErrno, errno := api.OK, api.OK
		if d.Path == "/" && d.Name == "t" {
			inferErrno, errno = api.ErrTime, api.ErrTime
		}
		if d.Path == "/" && strings.Contains("a v b", d.Name) {
			errno = api.ErrNone
		}
		slab := full([]int{3, 3})
		_, e1 := calc.Infer(s, less, text)
		_, e2 := calc.Used(s, less, text, slab)
		_, e3 := calc.PlanOf(s, less, text, []int{1, 1})
		_, e4 := calc.Value(s, less, text)
		_, e5 := calc.Tile(s, less, text, slab)
		_, e6 := calc.Run(s, less, text, []int{3, 3}, []int{0}, 1)
		if e1 != inferErrno || e2 != inferErrno || e3 != inferErrno || e4 != errno || e5 != errno || e6 != errno {
			t.Errorf("without %s %s: errors %d %d %d, %d %d %d", d.Path, d.Name, e1, e2, e3, e4, e5, e6)
		}
	}
	// What is not there is an error of its node.
	for text, want := range map[string]api.Errno{"/v + (/d + 1)": api.ErrNone, "(/d + 1) + /v": api.ErrMatch, "sum(/v, x)": api.ErrNone, "1 + /d": api.ErrMatch} {
		less := slices.DeleteFunc(slices.Clone(data), func(x api.Data) bool { return x.Name == "v" })
		refused, errno := calc.Value(s, less, text)
		if errno != want || len(refused.Vals) > 0 {
			t.Errorf("Value(%s) without /v: error %d, want %d", text, errno, want)
		}
	}
}

// P7.1: the schema and the data come before the nodes.

func TestWorldErrors(t *testing.T) {
	s, data := fixed(t)
	bad := schemaOf(t, worldText)
	bad.Groups[0].Vars[0].Unit = "q"
	for _, text := range []string{"1", "/none", "1 + /d", "sum(/v, t)"} {
		for _, wrong := range []api.Schema{{}, bad, {Groups: s.Groups[1:]}} {
			refusedByAll(t, wrong, data, text, api.ErrSchema, false)
			refusedByAll(t, wrong, nil, text, api.ErrSchema, false)
			refusedByAll(t, wrong, badData(data)[0], text, api.ErrSchema, false)
		}
		for i, wrong := range badData(data) {
			refusedByAll(t, s, wrong, text, api.ErrShape, false)
			if t.Failed() {
				t.Fatalf("data %d, %s", i, text)
			}
		}
	}
	refusedByAll(t, schema.Empty(), data[:1], "1", api.ErrShape, false)
	// Values need not fit the types of their variables.
	data[9].A.Vals[0] = "1/2"
	if a, errno := calc.Value(s, data, "/t"); errno != api.OK || a.Vals[0] != "1/2" {
		t.Errorf("a value that does not fit its type: error %d", errno)
	}
}

// badData returns data that are not valid for the schema.
func badData(data []api.Data) [][]api.Data {
	with := func(change func(d *api.Data)) []api.Data {
		l := slices.Clone(data)
		d := l[0]
		d.A = api.Array{Shape: slices.Clone(d.A.Shape), Vals: slices.Clone(d.A.Vals)}
		change(&d)
		return append(l[1:], d)
	}
	return [][]api.Data{
		append(slices.Clone(data), data[0]),
		append(slices.Clone(data[:1]), data[0]),
		append(slices.Clone(data), api.Data{}),
		with(func(d *api.Data) { d.Name = "none" }),
		with(func(d *api.Data) { d.Name = "x" }),
		with(func(d *api.Data) { d.Path = "/none" }),
		with(func(d *api.Data) { d.Path = "" }),
		with(func(d *api.Data) { d.Path, d.Name = "/g", "h" }),
		with(func(d *api.Data) { d.A.Shape = []int{3, 5} }),
		with(func(d *api.Data) { d.A.Shape = []int{15} }),
		with(func(d *api.Data) { d.A.Shape = []int{5, 3, 1} }),
		with(func(d *api.Data) { d.A.Vals = d.A.Vals[:14] }),
		with(func(d *api.Data) { d.A.Vals = append(d.A.Vals, "1") }),
		with(func(d *api.Data) { d.A = api.Array{} }),
		with(func(d *api.Data) { d.A.Vals[7] = "x" }),
		with(func(d *api.Data) { d.A.Vals[14] = "2/4" }),
		with(func(d *api.Data) { d.A.Vals[0] = "-0" }),
		with(func(d *api.Data) { d.A.Vals[0] = nines + "9" }),
	}
}
