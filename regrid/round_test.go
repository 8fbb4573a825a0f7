package regrid_test

import (
	"fmt"
	"slices"
	"testing"

	"arrayarchive/api"
	"arrayarchive/regrid"
)

// P8.4

func TestCommonRoundExamples(t *testing.T) {
	a, b, all := box(350, 0, 370, 1), box(0, 0, 20, 1), box(0, 0, 360, 1)
	for _, c := range []struct {
		a, b   api.Cell
		period int
		want   string
	}{
		{a, b, 360, "10"}, {a, b, 0, "0"}, {b, b, 0, "20"}, {b, b, 360, "20"}, {b, b, 20, "20"}, {mask(a), mask(b), 360, "10"}, {all, b, 360, "20"}, {all, all, 360, "360"}, {all, box(-100, 0, 260, 1), 360, "360"}, {all, box(1, 0, 361, 1), 360, "360"}, {all, box(360, 0, 720, 1), 360, "360"},
		{a, box(7200, 0, 7220, 1), 360, "10"}, {a, box(-7200, 0, -7180, 1), 360, "10"}, {a, box(20, 0, 40, 1), 340, "10"}, {a, box(370, 0, 390, 1), 20, "20"}, {a, box(380, 0, 400, 1), 20, "20"}, {a, box(370, 0, 380, 1), 360, "0"}, {a, box(10, 0, 20, 1), 360, "0"}, {a, box(0, 1, 20, 2), 360, "0"},
		{box(0, 0, 15, 1), box(10, 0, 25, 1), 20, "10"}, {box(0, 0, 15, 1), box(9, 0, 24, 1), 20, "10"}, {cell(0, 0, 8, 0, 4, 4), cell(4, 0, 12, 0, 8, 4), 8, "8"}, {cell(0, 0, 10, 0, 0, 1), cell(5, 0, 15, 0, 15, 1), 10, "15/4"},
		{box(0, 0, 1, 1), box(far-1, 0, far, 1), 1, "1"}, {box(-far, -5, 1-far, 5), box(far-1, 0, far, 1), 1, "1"}, {cell(-far, 0, 1-far, 0, -far, 1), cell(far-1, 0, far, 0, far, 1), 1, "1/4"}, {cell(-far, 0, 1-far, 0, -far, 1), cell(far, 0, far, 1, far-1, 1), 1, "0"},
		{box(-far, -far, 0, far), box(0, -far, far, far), far, "2199023255552"}, {box(-far, -far, 0, far), box(1, 0, far, 1), far, "1048575"}, {box(-far, 0, -far+3, 1), box(far-1, 0, far, 1), far, "0"}, {box(-far, 0, -far+3, 1), box(far-1, 0, far, 1), far - 1, "1"},
	} {
		x, errno := regrid.CommonRound(c.a, c.b, c.period)
		checkText(t, fmt.Sprintf("CommonRound(%v, %v, %d)", c.a, c.b, c.period), x, errno, c.want, api.OK)
		x, errno = regrid.CommonRound(c.b, c.a, c.period)
		checkText(t, fmt.Sprintf("CommonRound(%v, %v, %d)", c.b, c.a, c.period), x, errno, c.want, api.OK)
	}
}

// width returns how wide a cell is.
func width(c api.Cell) int {
	least, greatest := c.Corners[0].X, c.Corners[0].X
	for _, p := range c.Corners {
		least, greatest = min(least, p.X), max(greatest, p.X)
	}
	return greatest - least
}

func TestCommonRound(t *testing.T) {
	r := newRandom()
	found := [2]int{}
	for range 3000 {
		a, b := sample(r, -6, 6), sample(r, -6, 6)
		widest := max(width(a), width(b))
		period := pick(r, []int{0, widest, widest + 1, widest + r.IntN(9)})
		if period > 0 {
			a, b = shifted(a, r.IntN(90)-45, 0), shifted(b, r.IntN(90)-45, 0)
		}
		var want string
		if period == 0 {
			want = wantCommon(a, b).RatString()
		} else {
			near := shifted(a, (b.Corners[0].X-a.Corners[0].X)/period*period, 0)
			sum := wantCommon(near, b)
			for k := 1; k < 5; k++ {
				sum.Add(sum, wantCommon(shifted(near, k*period, 0), b))
				sum.Add(sum, wantCommon(shifted(near, -k*period, 0), b))
			}
			want = sum.RatString()
		}
		x, errno := regrid.CommonRound(a, b, period)
		checkText(t, fmt.Sprintf("CommonRound(%v, %v, %d)", a, b, period), x, errno, want, api.OK)
		if want == "0" {
			found[0]++
		} else {
			found[1]++
		}
	}
	if min(found[0], found[1]) < 100 {
		t.Errorf("areas 0 and others: %d", found)
	}
}

// All the moves of the model, with large coordinates.
func TestCommonRoundFar(t *testing.T) {
	r := newRandom()
	for range 300 {
		period := far/20 + r.IntN(far-far/20+1)
		least, other := r.IntN(2*far-period+1)-far, r.IntN(2*far-period+1)-far
		a, b := sample(r, least, least+period), sample(r, other, other+period)
		x, errno := regrid.CommonRound(a, b, period)
		checkText(t, fmt.Sprintf("CommonRound(%v, %v, %d)", a, b, period), x, errno, wantRound(a, b, period).RatString(), api.OK)
	}
}

// badPeriods are numbers that are no periods, whatever the cells are.
var badPeriods = append([]int{-1, -2, -far}, beyond...)

func TestCommonRoundErrors(t *testing.T) {
	wide := box(-1, 0, 20, 1)
	for _, p := range append(badPeriods, 1, 5, 20) {
		for _, pair := range [][2]api.Cell{{wide, wide}, {wide, box(0, 0, 1, 1)}, {box(0, 0, 1, 1), wide}, {box(-far, 0, far, 1), mask(wide)}} {
			x, errno := regrid.CommonRound(pair[0], pair[1], p)
			checkText(t, "CommonRound", x, errno, "", api.ErrArg)
		}
		for _, c := range badCells() {
			for _, pair := range [][2]api.Cell{{c, wide}, {wide, c}, {c, c}} {
				x, errno := regrid.CommonRound(pair[0], pair[1], p)
				checkText(t, "CommonRound", x, errno, "", api.ErrCell)
			}
		}
	}
	for _, c := range badCells() {
		for _, p := range []int{0, 21, far} {
			x, errno := regrid.CommonRound(c, wide, p)
			checkText(t, "CommonRound", x, errno, "", api.ErrCell)
		}
	}
	for _, p := range badPeriods {
		x, errno := regrid.CommonRound(box(0, 0, 1, 1), box(0, 0, 1, 1), p)
		checkText(t, "CommonRound", x, errno, "", api.ErrArg)
	}
	x, errno := regrid.CommonRound(wide, wide, 21)
	checkText(t, "CommonRound", x, errno, "21", api.OK)
	// The period 0 does not go around, so no cell is too wide for it.
	x, errno = regrid.CommonRound(box(-far, 0, far, 1), wide, 0)
	checkText(t, "CommonRound", x, errno, "21", api.OK)
	x, errno = regrid.CommonRound(box(-far, 0, far, 1), wide, far)
	checkText(t, "CommonRound", x, errno, "", api.ErrArg)
}

func checkWeights(t *testing.T, name string, got []api.Weight, errno api.Errno, want []api.Weight, wantErrno api.Errno) {
	t.Helper()
	if !slices.Equal(got, want) || errno != wantErrno {
		t.Errorf("%.500s: %v, error %d, want %v, error %d", name, got, errno, want, wantErrno)
	}
}

// wantWeights returns the weights of two grids.
func wantWeights(from, to []api.Cell, common func(a, b api.Cell) string) []api.Weight {
	var l []api.Weight
	for j, b := range to {
		for i, a := range from {
			if area := common(a, b); area != "0" {
				l = append(l, api.Weight{From: i, To: j, Area: area})
			}
		}
	}
	return l
}

func TestWeightsExamples(t *testing.T) {
	from, to := []api.Cell{box(0, 0, 2, 1), mask(box(2, 0, 4, 1))}, []api.Cell{box(3, 0, 9, 2), mask(box(0, 0, 1, 2)), box(1, 0, 3, 2), box(-5, 0, 0, 2)}
	got, errno := regrid.Weights(from, to, 0)
	checkWeights(t, "Weights", got, errno, []api.Weight{{From: 1, To: 0, Area: "1"}, {From: 0, To: 1, Area: "1"}, {From: 0, To: 2, Area: "1"}, {From: 1, To: 2, Area: "1"}}, api.OK)
	around := []api.Cell{box(0, 0, 10, 1), box(10, 0, 20, 1)}
	got, errno = regrid.Weights(around, []api.Cell{box(-5, 0, 5, 1)}, 20)
	checkWeights(t, "Weights on a cylinder", got, errno, []api.Weight{{From: 0, To: 0, Area: "5"}, {From: 1, To: 0, Area: "5"}}, api.OK)
	got, errno = regrid.Weights([]api.Cell{cell(0, 0, 3, 0, 0, 2)}, []api.Cell{box(2, 0, 3, 1), box(0, 0, 1, 1), box(3, 0, 4, 1)}, 0)
	checkWeights(t, "Weights of a triangle", got, errno, []api.Weight{{From: 0, To: 0, Area: "1/3"}, {From: 0, To: 1, Area: "1"}}, api.OK)
	for _, period := range []int{0, 1, 20, far} {
		got, errno = regrid.Weights(nil, nil, period)
		checkWeights(t, "Weights of nothing", got, errno, nil, api.OK)
	}
	got, errno = regrid.Weights(around, nil, 0)
	checkWeights(t, "Weights to nothing", got, errno, nil, api.OK)
	got, errno = regrid.Weights(nil, around, 20)
	checkWeights(t, "Weights from nothing", got, errno, nil, api.OK)
}

func TestWeights(t *testing.T) {
	r := newRandom()
	for range 60 {
		from, to := mesh(r, 0, 0, 1+r.IntN(5), 1+r.IntN(5)), mesh(r, r.IntN(30)-10, r.IntN(30)-10, 1+r.IntN(5), 1+r.IntN(5))
		got, errno := regrid.Weights(from, to, 0)
		checkWeights(t, "Weights", got, errno, wantWeights(from, to, func(a, b api.Cell) string { return wantCommon(a, b).RatString() }), api.OK)
		period := 50 + r.IntN(20)
		for i, c := range to {
			to[i] = shifted(c, (r.IntN(9)-4)*period, 0)
		}
		got, errno = regrid.Weights(from, to, period)
		checkWeights(t, "Weights on a cylinder", got, errno, wantWeights(from, to, func(a, b api.Cell) string { return must[string](t)(regrid.CommonRound(a, b, period)) }), api.OK)
	}
}

// All of the pairs of two grids with 64 cells each have an area in common, that is no integer.
func TestWeightsOfMany(t *testing.T) {
	r := newRandom()
	var from, to []api.Cell
	low, high, left, right := axis(r, 65, -far, far), axis(r, 65, -far, far), axis(r, 65, -far, far), axis(r, 65, -far, far)
	for i := range api.MaxGrid {
		from = append(from, cell(low[i], -far, low[i+1], -far, high[i+1], far, high[i], far))
		to = append(to, cell(-far, left[i], far, right[i], far, right[i+1], -far, left[i+1]))
	}
	got, errno := regrid.Weights(from, to, 0)
	if errno != api.OK || len(got) < 3000 {
		t.Fatalf("%d weights, error %d", len(got), errno)
	}
	for range 200 {
		w := pick(r, got)
		checkText(t, "a weight", w.Area, api.OK, wantCommon(from[w.From], to[w.To]).RatString(), api.OK)
	}
}

func TestWeightsErrors(t *testing.T) {
	check := func(from, to []api.Cell, period int, want api.Errno) {
		t.Helper()
		got, errno := regrid.Weights(from, to, period)
		checkWeights(t, fmt.Sprintf("Weights(%v, %v, %d)", from, to, period), got, errno, nil, want)
		got, errno = regrid.Weights(to, from, period)
		checkWeights(t, fmt.Sprintf("Weights(%v, %v, %d)", to, from, period), got, errno, nil, want)
	}
	good, twice, wide := []api.Cell{box(0, 0, 10, 1), box(10, 0, 20, 1)}, []api.Cell{octagon(), octagon()}, []api.Cell{box(0, 0, 31, 1)}
	many := slices.Repeat(good, 33)
	for _, p := range append(badPeriods, 0, 9, 20, 100) {
		for _, c := range badCells() {
			check([]api.Cell{c}, nil, p, api.ErrCell)
			check([]api.Cell{good[0], c}, good, p, api.ErrCell)
			check(twice, []api.Cell{c, c}, p, api.ErrCell)
			check(append(slices.Clone(many), c), wide, p, api.ErrCell)
		}
	}
	for _, p := range badPeriods {
		for _, g := range [][]api.Cell{nil, good, twice, wide, many} {
			check(g, nil, p, api.ErrArg)
			check(g, good, p, api.ErrArg)
		}
	}
	for _, p := range []int{1, 9, 30} {
		check(wide, nil, p, api.ErrArg)
		check(good, wide, p, api.ErrArg)
		check(append(slices.Clone(twice), wide...), nil, p, api.ErrArg)
		check(many, wide, p, api.ErrArg)
	}
	for _, p := range []int{0, 31, far} {
		check(twice, nil, p, api.ErrCover)
		check(good, twice, p, api.ErrCover)
		check(many, wide, p, api.ErrCover)
		check([]api.Cell{mask(octagon()), octagon()}, wide, p, api.ErrCover)
	}
	rows := must[[]api.Cell](t)(regrid.Rectangles(axis(newRandom(), 65, -99, 99), []int{0, 1}))
	check(append(rows, box(0, 5, 1, 6)), good, 0, api.ErrCover)
}

// Cells that overlap only behind a move by some periods.
func TestWeightsCoverAround(t *testing.T) {
	for _, c := range []struct {
		g      []api.Cell
		period int
		want   api.Errno
	}{
		{[]api.Cell{box(0, 0, 10, 1), box(10, 0, 20, 1)}, 15, api.ErrCover}, {[]api.Cell{box(0, 0, 10, 1), box(10, 0, 20, 1)}, 20, api.OK}, {[]api.Cell{box(0, 0, 10, 1), box(10, 0, 20, 1)}, 19, api.ErrCover}, {[]api.Cell{box(0, 0, 10, 1), box(10, 0, 20, 1)}, 10, api.ErrCover}, {[]api.Cell{box(0, 0, 10, 1), box(100, 0, 110, 1)}, 20, api.ErrCover},
		{[]api.Cell{box(0, 0, 10, 1), box(110, 0, 120, 1)}, 20, api.OK}, {[]api.Cell{box(0, 0, 10, 1), box(5, 1, 15, 2)}, 10, api.OK}, {[]api.Cell{box(0, 0, 10, 1), mask(box(5, 0, 15, 1))}, 100, api.ErrCover}, {[]api.Cell{box(0, 0, 10, 1)}, 10, api.OK}, {[]api.Cell{cell(0, 0, 10, 0, 0, 1)}, 10, api.OK},
		{[]api.Cell{cell(0, 0, 10, 0, 0, 1), cell(10, 0, 10, 1, 0, 1)}, 10, api.OK}, {[]api.Cell{cell(0, 0, 10, 0, 0, 1), cell(20, 0, 20, 1, 10, 1)}, 10, api.OK}, {[]api.Cell{cell(0, 0, 10, 0, 0, 1), cell(19, 0, 19, 1, 9, 1)}, 10, api.ErrCover}, {[]api.Cell{box(-far, 0, 1-far, 1), box(far-1, 0, far, 1)}, 1, api.ErrCover}, {[]api.Cell{box(-far, 0, 1-far, 1), box(far-1, 0, far, 1)}, 2, api.OK},
	} {
		for _, l := range [][2][]api.Cell{{c.g, nil}, {nil, c.g}, {c.g, {box(0, 50, 1, 51)}}} {
			if got, errno := regrid.Weights(l[0], l[1], c.period); errno != c.want || len(got) > 0 {
				t.Errorf("Weights(%v, %v, %d): %v, error %d, want %d", l[0], l[1], c.period, got, errno, c.want)
			}
		}
		if _, errno := regrid.Weights(c.g, nil, 0); errno != api.OK && !slices.ContainsFunc(c.g, func(c api.Cell) bool { return c.Masked }) {
			t.Errorf("Weights(%v) without a period: error %d", c.g, errno)
		}
	}
}
