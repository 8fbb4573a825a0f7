package regrid_test

import (
	"cmp"
	"fmt"
	"math"
	"math/big"
	"math/rand/v2"
	"slices"
	"strings"
	"testing"

	"arrayarchive/api"
	"arrayarchive/regrid"
)

// masks returns cells of which only Masked has a meaning, from a text of a letter for each: m if it is masked.
func masks(text string) []api.Cell {
	l := make([]api.Cell, len(text))
	for i := range l {
		l[i].Masked = text[i] == 'm'
	}
	return l
}

// words returns the words of a text, with _ for an empty one.
func words(text string) []string {
	l := strings.Fields(text)
	for i := range l {
		l[i] = strings.TrimPrefix(l[i], "_")
	}
	return l
}

func checkRegrid(t *testing.T, weights []api.Weight, from []api.Cell, vals []string, to []api.Cell, want, covered []string, wantErrno api.Errno) {
	t.Helper()
	v, c, errno := regrid.Regrid(weights, from, vals, to)
	if !slices.Equal(v, want) || !slices.Equal(c, covered) || errno != wantErrno {
		t.Errorf("Regrid(%.500s): %q, %q, error %d, want %q, %q, error %d", fmt.Sprintf("%v, %v, %q, %v", weights, from, vals, to), v, c, errno, want, covered, wantErrno)
	}
}

// P8.5

func TestRegridExamples(t *testing.T) {
	l := []api.Weight{{From: 0, To: 0, Area: "1"}, {From: 0, To: 1, Area: "1/2"}, {From: 1, To: 1, Area: "3/2"}, {From: 2, To: 2, Area: "7"}}
	for _, c := range []struct {
		from, vals, to, want, covered string
	}{
		{"...", "1 3 5", "...", "1 5/2 5", "1 2 7"}, {"...", "1 3 5", "....", "1 5/2 5 _", "1 2 7 0"}, {"...", "_ 3 5", "...", "_ 3 5", "0 3/2 7"}, {"...", "1 _ 5", "...", "1 1 5", "1 1/2 7"}, {"...", "_ _ _", "...", "_ _ _", "0 0 0"},
		{"m..", "1 3 5", "...", "_ 3 5", "0 3/2 7"}, {".m.", "1 3 5", "...", "1 1 5", "1 1/2 7"}, {"..m", "1 3 5", "...", "1 5/2 _", "1 2 0"}, {"mmm", "1 3 5", "...", "_ _ _", "0 0 0"}, {"m..", "_ 3 5", "...", "_ 3 5", "0 3/2 7"},
		{"...", "1 3 5", ".m.", "1 _ 5", "1 0 7"}, {"...", "1 3 5", "mmm", "_ _ _", "0 0 0"}, {"m..", "1 3 5", ".m.", "_ _ 5", "0 0 7"}, {"...", "0 0 0", "...", "0 0 0", "1 2 7"}, {"...", "3 -1 -5/7", "...", "3 0 -5/7", "1 2 7"},
	} {
		checkRegrid(t, l, masks(c.from), words(c.vals), masks(c.to), words(c.want), words(c.covered), api.OK)
		slices.Reverse(l) // their order plays no part
	}
	checkRegrid(t, nil, nil, nil, nil, nil, nil, api.OK)
	checkRegrid(t, nil, masks("."), []string{"1"}, nil, nil, nil, api.OK)
	checkRegrid(t, nil, nil, nil, masks(".m"), []string{"", ""}, []string{"0", "0"}, api.OK)
	two, err := regrid.Rectangles([]int{0, 2, 4}, []int{0, 1})
	one := []api.Cell{box(0, 0, 4, 1)}
	weights, errno := regrid.Weights(two, one, 0)
	if err != api.OK || errno != api.OK {
		t.Fatalf("errors %d, %d", err, errno)
	}
	checkRegrid(t, weights, two, []string{"1", "3"}, one, []string{"2"}, []string{"4"}, api.OK)
	checkRegrid(t, weights, two, []string{"", "3"}, one, []string{"3"}, []string{"2"}, api.OK)
}

// Values that are too long are missing, but what is formed on the way may be long.
func TestRegridOfLongNumbers(t *testing.T) {
	cells := masks("...")
	seven := strings.Repeat("7", 500)
	for _, c := range []struct {
		areas, vals, want, covered string
	}{
		{"1 1/3 1", nines + " 1/7 _", "_", "4/3"}, {"1 1 1", nines + " " + nines + " _", nines, "2"}, {"1 1 1", nines + " -" + nines + " 1", "1/3", "3"}, {"1 1 1", nines + " " + nines + " -1", "_", "3"}, {seven + " " + seven + " " + seven, "1 2 5/2", "11/6", exact("3").Mul(exact("3"), exact(seven)).RatString()},
		{"1/" + seven + " 2/" + seven + " 1/" + seven, "1 2 3", "2", "4/" + seven}, {seven + " 1 1", "1/2 1/2 1/2", "1/2", exact(seven).Add(exact(seven), exact("2")).RatString()}, {seven + " 1 1", "1 2 3", "_", exact(seven).Add(exact(seven), exact("2")).RatString()}, {"1 1 1", "1/" + nines + " 1/" + nines + " _", "1/" + nines, "2"},
		{"1 1 2", "1/" + nines + " 0 0", "_", "4"}, {"1 1 7", "0 0 0", "0", "9"}, {"9 9 9", nines + " " + nines + " " + nines, nines, "27"},
	} {
		areas := words(c.areas)
		l := []api.Weight{{From: 0, Area: areas[0]}, {From: 1, Area: areas[1]}, {From: 2, Area: areas[2]}}
		checkRegrid(t, l, cells, words(c.vals), masks("."), words(c.want), words(c.covered), api.OK)
	}
}

// wantRegrid computes with exact numbers of package big.
func wantRegrid(weights []api.Weight, from []api.Cell, vals []string, to []api.Cell) ([]string, []string) {
	var values, covered []string
	for j, target := range to {
		area, sum := new(big.Rat), new(big.Rat)
		for _, w := range weights {
			if w.To == j && !target.Masked && !from[w.From].Masked && vals[w.From] != "" {
				area.Add(area, exact(w.Area))
				sum.Add(sum, product(exact(w.Area), exact(vals[w.From])))
			}
		}
		value := ""
		if area.Sign() != 0 {
			value = short(new(big.Rat).Quo(sum, area))
		}
		values, covered = append(values, value), append(covered, area.RatString())
	}
	return values, covered
}

// sampleWeights returns weights of some source and target cells in any order.
func sampleWeights(r *rand.Rand, sources, targets int) []api.Weight {
	var l []api.Weight
	for i := range sources {
		for j := range targets {
			if r.IntN(2) == 0 {
				l = append(l, api.Weight{From: i, To: j, Area: sampleArea(r)})
			}
		}
	}
	r.Shuffle(len(l), func(i, k int) { l[i], l[k] = l[k], l[i] })
	return l
}

func sampleMasks(r *rand.Rand, n int) []api.Cell {
	l := make([]api.Cell, n)
	for i := range l {
		l[i].Masked = r.IntN(5) == 0
	}
	return l
}

func TestRegrid(t *testing.T) {
	r := newRandom()
	for range 2000 {
		from, to := sampleMasks(r, r.IntN(7)), sampleMasks(r, r.IntN(7))
		weights, vals := sampleWeights(r, len(from), len(to)), sampleValues(r, len(from))
		want, covered := wantRegrid(weights, from, vals, to)
		checkRegrid(t, weights, from, vals, to, want, covered, api.OK)
	}
	// More cells than a grid has: they need not be valid.
	from, to := sampleMasks(r, 90), sampleMasks(r, 70)
	weights, vals := sampleWeights(r, len(from), len(to)), sampleValues(r, len(from))
	want, covered := wantRegrid(weights, from, vals, to)
	checkRegrid(t, weights, from, vals, to, want, covered, api.OK)
}

func TestRegridErrors(t *testing.T) {
	from, to, vals := masks(".m"), masks("m.."), []string{"1", ""}
	good := api.Weight{From: 1, To: 2, Area: "1"}
	refused := func(l []api.Weight, vals []string) {
		t.Helper()
		checkRegrid(t, l, from, vals, to, nil, nil, api.ErrArg)
	}
	for _, n := range append(beyond, -1, 3, 4) {
		refused([]api.Weight{{From: n, Area: "1"}}, vals)
		refused([]api.Weight{{To: n, Area: "1"}}, vals)
		refused([]api.Weight{good, {From: n, To: 0, Area: "1"}}, vals)
	}
	refused([]api.Weight{{From: 2, To: 0, Area: "1"}}, vals)
	for _, x := range append(notLongNumbers, "0", "-1", "-1/2", "-"+nines+nines) {
		refused([]api.Weight{{Area: x}}, vals)
		refused([]api.Weight{good, {Area: x}}, vals)
		refused([]api.Weight{{From: 1, To: 0, Area: x}}, vals) // it is an error even where masks leave it out
	}
	refused([]api.Weight{good, good}, vals)
	refused([]api.Weight{good, {Area: "1"}, {From: 1, To: 2, Area: "2"}}, vals)
	for _, l := range [][]string{nil, {"1"}, {"1", "2", "3"}, {""}} {
		refused([]api.Weight{}, l)
		refused([]api.Weight{good}, l)
	}
	for _, x := range notValues {
		refused([]api.Weight{good}, []string{x, "1"})
		refused(nil, []string{"1", x})
	}
	checkRegrid(t, []api.Weight{good, {From: 1, To: 1, Area: "1"}, {From: 0, To: 2, Area: "1"}}, from, vals, to, []string{"", "", "1"}, []string{"0", "0", "1"}, api.OK)
	checkRegrid(t, nil, nil, []string{"1"}, to, nil, nil, api.ErrArg)
	checkRegrid(t, []api.Weight{{Area: "1"}}, nil, nil, to, nil, nil, api.ErrArg)
	checkRegrid(t, []api.Weight{{Area: "1"}}, from, vals, nil, nil, nil, api.ErrArg)
}

// P8.6

func TestTotalExamples(t *testing.T) {
	long := strings.Repeat("7", 600)
	for _, c := range [][3]string{
		{"", "", "0"}, {"_", "5", "0"}, {"_ _", "1 2/3", "0"}, {"1 3", "2 2", "8"}, {"2 _ -1/2", "1/2 9 4", "-1"}, {"1/3 1/6", "1 1", "1/2"}, {"2", "0", "0"}, {"2 1", "-1/2 0", "-1"}, {"0", long, "0"}, {"1", long, long}, {"-1", "1/" + long, "-1/" + long}, {"1 -1", long + " " + long, "0"},
		{nines + " " + nines, "1 1", "1" + strings.Repeat("9", 39) + "8"}, {nines, nines, strings.Repeat("9", 39) + "8" + strings.Repeat("0", 39) + "1"}, {"1/2 1/3", long + " " + long, product(exact("5/6"), exact(long)).RatString()}, {"_ 1", long + " 1", "1"},
	} {
		got, errno := regrid.Total(words(c[0]), words(c[1]))
		checkText(t, fmt.Sprint("Total of ", c[0], " and ", c[1]), got, errno, c[2], api.OK)
	}
}

func TestTotal(t *testing.T) {
	r := newRandom()
	for i := range 1000 {
		n := r.IntN(10)
		if i == 0 {
			n = 3000
		}
		vals, areas := sampleValues(r, n), make([]string, n)
		sum := new(big.Rat)
		for i := range areas {
			areas[i] = sampleArea(r)
			if r.IntN(5) == 0 {
				areas[i] = "-" + areas[i]
			}
			if n > 10 && len(areas[i]) > 10 { // the model takes long for many long areas
				areas[i] = "0"
			}
			if vals[i] != "" {
				sum.Add(sum, product(exact(vals[i]), exact(areas[i])))
			}
		}
		got, errno := regrid.Total(vals, areas)
		checkText(t, fmt.Sprintf("Total(%q, %q)", vals, areas), got, errno, sum.RatString(), api.OK)
	}
}

func TestTotalErrors(t *testing.T) {
	refused := func(vals, areas []string) {
		t.Helper()
		got, errno := regrid.Total(vals, areas)
		checkText(t, fmt.Sprintf("Total(%q, %q)", vals, areas), got, errno, "", api.ErrArg)
	}
	for _, c := range [][2]string{{"1", ""}, {"", "1"}, {"1 2", "1"}, {"1", "1 2"}, {"_", ""}, {"_", "1 1"}} {
		refused(words(c[0]), words(c[1]))
	}
	for _, x := range notValues {
		refused([]string{x}, []string{"1"})
		refused([]string{"1", x}, []string{"1", "0"})
	}
	for _, x := range notLongNumbers {
		refused([]string{"1"}, []string{x})
		refused([]string{"1", "2"}, []string{"1", x})
		refused([]string{"", "2"}, []string{x, "1"}) // it is an error even where the value is missing
	}
}

// P8.7

func TestMergeExamples(t *testing.T) {
	l := []api.Weight{{From: 1, To: 2, Area: "1/2"}, {From: 0, To: 0, Area: "1"}, {From: 1, To: 1, Area: "1/2"}, {From: 3, To: 3, Area: "9"}, {From: 0, To: 1, Area: "2"}}
	long := strings.Repeat("8", 100)
	for _, c := range []struct {
		l    []api.Weight
		part []int
		n    int
		want []api.Weight
	}{
		{l, []int{1, 0, 0, -1}, 2, []api.Weight{{From: 0, To: 0, Area: "2"}, {From: 1, To: 0, Area: "1"}, {From: 0, To: 1, Area: "1"}}}, {l, []int{0, 0, 0, 0}, 1, []api.Weight{{From: 0, To: 0, Area: "3"}, {From: 1, To: 0, Area: "1"}, {From: 3, To: 0, Area: "9"}}}, {l, []int{-1, -1, -1, -1}, 0, nil}, {l, []int{-1, -1, -1, -1, -1}, 64, nil},
		{l, []int{0, 1, 2, 3}, 4, []api.Weight{{From: 0, To: 0, Area: "1"}, {From: 0, To: 1, Area: "2"}, {From: 1, To: 1, Area: "1/2"}, {From: 1, To: 2, Area: "1/2"}, {From: 3, To: 3, Area: "9"}}}, {l, []int{63, 7, 63, 0}, 64, []api.Weight{{From: 3, To: 0, Area: "9"}, {From: 0, To: 7, Area: "2"}, {From: 1, To: 7, Area: "1/2"}, {From: 0, To: 63, Area: "1"}, {From: 1, To: 63, Area: "1/2"}}},
		{nil, nil, 0, nil}, {nil, []int{0, -1}, 1, nil}, {nil, nil, 64, nil}, {[]api.Weight{{From: math.MaxInt, Area: long}, {From: math.MaxInt, Area: "1/2"}, {From: math.MaxInt - 1, Area: "1/3"}}, []int{5}, 6, []api.Weight{{From: math.MaxInt - 1, To: 5, Area: "1/3"}, {From: math.MaxInt, To: 5, Area: exact(long).Add(exact(long), exact("1/2")).RatString()}}},
		{slices.Repeat([]api.Weight{{From: 2, To: 0, Area: "1/3"}}, 5), []int{1}, 2, []api.Weight{{From: 2, To: 1, Area: "5/3"}}},
	} {
		got, errno := regrid.Merge(c.l, c.part, c.n)
		checkWeights(t, fmt.Sprintf("Merge(%v, %v, %d)", c.l, c.part, c.n), got, errno, c.want, api.OK)
	}
}

func TestMerge(t *testing.T) {
	r := newRandom()
	for range 1000 {
		sources, targets, n := 1+r.IntN(6), 1+r.IntN(9), r.IntN(5)
		l, part := sampleWeights(r, sources, targets), make([]int, targets)
		for i := range part {
			part[i] = r.IntN(n+1) - 1
		}
		sums := map[[2]int]*big.Rat{}
		for _, w := range l {
			key := [2]int{part[w.To], w.From}
			if key[0] < 0 {
				continue
			}
			if sums[key] == nil {
				sums[key] = new(big.Rat)
			}
			sums[key].Add(sums[key], exact(w.Area))
		}
		var want []api.Weight
		for key, sum := range sums {
			want = append(want, api.Weight{From: key[1], To: key[0], Area: sum.RatString()})
		}
		slices.SortFunc(want, func(a, b api.Weight) int { return cmp.Or(a.To-b.To, a.From-b.From) })
		got, errno := regrid.Merge(l, part, n)
		checkWeights(t, fmt.Sprintf("Merge(%v, %v, %d)", l, part, n), got, errno, want, api.OK)
	}
}

func TestMergeErrors(t *testing.T) {
	refused := func(l []api.Weight, part []int, n int) {
		t.Helper()
		got, errno := regrid.Merge(l, part, n)
		checkWeights(t, fmt.Sprintf("Merge(%v, %v, %d)", l, part, n), got, errno, nil, api.ErrArg)
	}
	good := []api.Weight{{From: 5, To: 1, Area: "1"}}
	part := []int{0, 1}
	for _, n := range append(beyond, -1, 65) {
		refused(nil, nil, n)
		refused(nil, []int{-1}, n)
		if n != -1 {
			refused(nil, []int{0, n}, 64)
		}
		refused(append(slices.Clone(good), api.Weight{To: n, Area: "1"}), part, 2)
	}
	for _, l := range [][]int{{2}, {-2}, {0, 2}, {0, 1, -2}, {3, 0}} {
		refused(nil, l, 2)
		refused([]api.Weight{{Area: "1"}}, l, 2)
	}
	refused(nil, []int{-2}, 0)
	refused(nil, []int{0}, 0)
	refused([]api.Weight{{Area: "1"}}, nil, 1)
	refused(good, []int{0}, 1)
	refused(good, []int{-1}, 1)
	for _, from := range []int{-1, -2, math.MinInt} {
		refused([]api.Weight{{From: from, Area: "1"}}, part, 2)
		refused([]api.Weight{{From: from, Area: "1"}}, []int{-1}, 2)
	}
	for _, x := range append(notLongNumbers, "0", "-1", "-1/2", "-"+nines+nines) {
		refused([]api.Weight{{Area: x}}, part, 2)
		refused([]api.Weight{good[0], {Area: x}}, part, 2)
		refused([]api.Weight{{Area: x}}, []int{-1}, 2) // it is an error even where the cell belongs to none
	}
}
