package regrid_test

import (
	"math/big"
	"slices"
	"testing"

	"arrayarchive/api"
	"arrayarchive/regrid"
)

// P8.2

func checkText(t *testing.T, name string, got string, errno api.Errno, want string, wantErrno api.Errno) {
	t.Helper()
	if got != want || errno != wantErrno {
		t.Errorf("%.500s: %q, error %d, want %q, error %d", name, got, errno, want, wantErrno)
	}
}

func TestArea(t *testing.T) {
	for _, c := range []struct {
		c    api.Cell
		want string
	}{
		{box(0, 0, 1, 1), "1"}, {cell(0, 0, 1, 0, 0, 1), "1/2"}, {cell(0, 0, 3, 0, 0, 1), "3/2"}, {octagon(), "28"}, {cell(0, 0, 2, 1, 1, 2), "3/2"}, {cell(-5, -5, -3, -5, -5, -3), "2"},
		{box(-far, -far, far, far), "4398046511104"}, {cell(-far, -far, far, far-1, far, far), "1048576"}, {cell(-far, -far, far, far, far-1, far), "1048576"}, {cell(0, 0, 1000, 999, 1001, 1000), "1/2"}, {mask(box(0, 0, 2, 3)), "6"},
	} {
		got, errno := regrid.Area(c.c)
		checkText(t, "Area", got, errno, c.want, api.OK)
	}
	r := newRandom()
	for range 5000 {
		size := pick(r, []int{2, 5, 100, far})
		c := sample(r, -size, size)
		got, errno := regrid.Area(c)
		checkText(t, "Area", got, errno, areaOf(exactPlaces(c)).RatString(), api.OK)
	}
	for _, c := range badCells() {
		got, errno := regrid.Area(c)
		checkText(t, "Area of a bad cell", got, errno, "", api.ErrCell)
	}
}

func TestAreas(t *testing.T) {
	r := newRandom()
	check := func(g []api.Cell, want []string, wantErrno api.Errno) {
		t.Helper()
		if got, errno := regrid.Areas(g); !slices.Equal(got, want) || errno != wantErrno {
			t.Errorf("Areas(%v): %q, error %d, want %q, error %d", g, got, errno, want, wantErrno)
		}
	}
	check(nil, nil, api.OK)
	check([]api.Cell{box(0, 0, 2, 1), mask(cell(2, 0, 3, 0, 2, 1)), octagonAt(10)}, []string{"2", "1/2", "28"}, api.OK)
	for range 50 {
		g := mesh(r, -20, 0, 1+r.IntN(6), 1+r.IntN(5))
		var want []string
		for i, c := range g {
			g[i].Masked = r.IntN(2) == 0
			want = append(want, areaOf(exactPlaces(c)).RatString())
		}
		check(g, want, api.OK)
	}
	rows := must[[]api.Cell](t)(regrid.Rectangles(axis(r, 65, -99, 99), []int{0, 1}))
	for _, g := range [][]api.Cell{{octagon(), octagon()}, {box(0, 0, 2, 1), cell(0, 0, 4, 0, 0, 4)}, {mask(box(0, 0, 2, 2)), box(1, 1, 3, 3)}, slices.Concat(rows, []api.Cell{box(0, 5, 1, 6)})} {
		check(g, nil, api.ErrCover)
		check(append(slices.Clone(g), api.Cell{}), nil, api.ErrCell)
		check(append([]api.Cell{box(0, 0, -1, 1)}, g...), nil, api.ErrCell)
	}
	for _, c := range badCells() {
		check([]api.Cell{c}, nil, api.ErrCell)
		check([]api.Cell{box(90, 90, 91, 91), c}, nil, api.ErrCell)
	}
}

// octagonAt returns an octagon with another least X.
func octagonAt(x int) api.Cell {
	return shifted(octagon(), x, 0)
}

func TestCommonExamples(t *testing.T) {
	triangle := cell(0, 0, 4, 0, 0, 4)
	for _, c := range []struct {
		a, b api.Cell
		want string
	}{
		{box(0, 0, 2, 2), cell(1, 1, 3, 1, 1, 3), "1"}, {triangle, box(1, 1, 3, 3), "2"}, {triangle, triangle, "8"}, {mask(triangle), triangle, "8"}, {triangle, mask(triangle), "8"},
		// Only places on sides in common, or none.
		{triangle, box(4, 0, 5, 5), "0"}, {triangle, box(-9, -9, -1, -1), "0"}, {triangle, box(0, -5, 4, 0), "0"}, {triangle, cell(0, 4, 4, 0, 4, 4), "0"}, {triangle, cell(1, 3, 9, -5, 9, 9), "0"}, {triangle, box(2, 2, 3, 3), "0"},
		{box(0, 0, 1, 1), box(1, 1, 2, 2), "0"}, {box(0, 0, 1, 9), box(1, 3, 2, 4), "0"}, {box(0, 0, 1, 1), box(1, 5, 2, 6), "0"}, {box(0, 0, 1, 1), box(-5, 1, 5, 2), "0"}, {octagon(), cell(0, 0, 2, 0, 0, 2), "0"}, {octagon(), cell(-9, -9, 0, -9, 0, 1), "0"},
		// One in the other, with common sides or without.
		{box(0, 0, 9, 9), box(4, 4, 5, 5), "1"}, {box(0, 0, 9, 9), box(0, 0, 5, 5), "25"}, {box(0, 0, 9, 9), box(0, 3, 9, 5), "18"}, {box(0, 0, 9, 9), cell(0, 1, 1, 0, 9, 0, 9, 9), "89/2"}, {box(0, 0, 4, 4), cell(0, 0, 4, 0, 4, 4), "8"}, {octagon(), box(0, 0, 6, 6), "28"}, {octagon(), box(0, 2, 6, 4), "12"},
		// Crosses and stars.
		{box(0, 4, 9, 5), box(4, 0, 5, 9), "1"}, {cell(0, 0, 6, 0, 3, 6), cell(0, 4, 3, -2, 6, 4), "12"}, {octagon(), cell(3, -1, 7, 3, 3, 7, -1, 3), "28"}, {octagon(), cell(3, 0, 6, 3, 3, 6, 0, 3), "18"}, {box(0, 0, 4, 4), cell(2, -1, 5, 2, 2, 5, -1, 2), "14"},
		// Corners that are no integers.
		{cell(0, 0, 3, 0, 0, 1), box(1, 0, 2, 1), "1/2"}, {cell(0, 0, 3, 0, 0, 2), box(2, 0, 3, 1), "1/3"}, {cell(0, 0, 3, 0, 0, 2), box(0, 0, 1, 1), "1"}, {cell(0, 0, 2, 1, 0, 2), cell(2, 0, 2, 2, 0, 1), "1"}, {cell(0, 0, 7, 0, 0, 7), cell(0, 0, 7, 0, 7, 5), "245/24"},
		{cell(0, 0, 2, 0, 1, 5), cell(0, 1, 2, 1, 1, 6), "16/5"},
		// Large ones.
		{box(-far, -far, far, far), box(-far, -far, far, far), "4398046511104"}, {cell(-far, -far, far, far-1, far, far), cell(-far, -far, far, far, far-1, far), "0"}, {cell(-far, -far, far, far-1, far, far), box(-far, -far, 0, 0), "262144"}, {box(-far, -far, 1-far, far), box(far-1, -far, far, far), "0"},
	} {
		for at := range c.a.Corners {
			for to := range c.b.Corners {
				x, errno := regrid.Common(begun(c.a, at), begun(c.b, to))
				checkText(t, "Common", x, errno, c.want, api.OK)
				x, errno = regrid.Common(begun(c.b, to), begun(c.a, at))
				checkText(t, "Common", x, errno, c.want, api.OK)
			}
		}
	}
}

func TestCommon(t *testing.T) {
	r := newRandom()
	found := [3]int{}
	for range 20000 {
		a, b := samplePair(r)
		want := wantCommon(a, b)
		x, errno := regrid.Common(a, b)
		checkText(t, "Common", x, errno, want.RatString(), api.OK)
		switch {
		case want.Sign() == 0:
			found[0]++
		case want.IsInt():
			found[1]++
		default:
			found[2]++
		}
	}
	if slices.Min(found[:]) < 500 {
		t.Errorf("areas 0, integers and fractions: %d", found)
	}
}

// The areas that large cells have in common have many digits.
func TestCommonOfMany(t *testing.T) {
	r := newRandom()
	longest := 0
	for range 300 {
		a, b := sample(r, -far, far), sample(r, -far, far)
		want := wantCommon(a, b).RatString()
		x, errno := regrid.Common(a, b)
		checkText(t, "Common", x, errno, want, api.OK)
		longest = max(longest, len(want))
	}
	if longest < 2*api.MaxDigits {
		t.Errorf("the longest area has %d digits", longest)
	}
}

func TestCommonErrors(t *testing.T) {
	for _, c := range badCells() {
		for _, pair := range [][2]api.Cell{{c, octagon()}, {octagon(), c}, {c, c}} {
			x, errno := regrid.Common(pair[0], pair[1])
			checkText(t, "Common", x, errno, "", api.ErrCell)
		}
	}
}

func TestContains(t *testing.T) {
	r := newRandom()
	triangle := cell(0, 0, 4, 0, 0, 4)
	for _, c := range []struct {
		c    api.Cell
		p    api.Place
		want bool
	}{
		{triangle, api.Place{X: 1, Y: 1}, true}, {triangle, api.Place{X: 2, Y: 2}, true}, {triangle, api.Place{X: 4}, true}, {mask(triangle), api.Place{X: 3}, true}, {triangle, api.Place{}, true}, {triangle, api.Place{X: 3, Y: 2}, false}, {triangle, api.Place{X: -1}, false}, {triangle, api.Place{X: 5}, false}, {triangle, api.Place{X: 5, Y: -1}, false}, {triangle, api.Place{X: far, Y: -far}, false},
		{box(-far, -far, far, far), api.Place{X: far, Y: -far}, true}, {box(-far, -far, far, far-1), api.Place{X: far, Y: far}, false}, {cell(-far, -far, far, far-1, far, far), api.Place{X: 0, Y: 0}, true}, {cell(-far, -far, far, far-1, far, far), api.Place{X: 0, Y: -1}, false},
	} {
		if is, errno := regrid.Contains(c.c, c.p); is != c.want || errno != api.OK {
			t.Errorf("Contains(%v, %v) is %v, error %d", c.c, c.p, is, errno)
		}
	}
	for range 300 {
		c := sample(r, -6, 6)
		for x := -7; x <= 7; x++ {
			for y := -7; y <= 7; y++ {
				p := api.Place{X: x, Y: y}
				if is, errno := regrid.Contains(c, p); is != wantContained(c, p) || errno != api.OK {
					t.Errorf("Contains(%v, %v) is %v, error %d", c, p, is, errno)
				}
			}
		}
	}
}

// wantContained reports whether the triangles of a place and the sides of a cell together are no larger than the cell.
func wantContained(c api.Cell, p api.Place) bool {
	sum := 0
	for i, a := range c.Corners {
		turn := crossOf(a, c.Corners[(i+1)%len(c.Corners)], p)
		sum += max(turn, -turn)
	}
	return big.NewRat(int64(sum), 2).Cmp(areaOf(exactPlaces(c))) == 0
}

func TestContainsErrors(t *testing.T) {
	check := func(c api.Cell, p api.Place, want api.Errno) {
		t.Helper()
		if is, errno := regrid.Contains(c, p); is || errno != want {
			t.Errorf("Contains(%v, %v) is %v, error %d, want %d", c, p, is, errno, want)
		}
	}
	for _, n := range beyond {
		for _, p := range []api.Place{{X: n}, {Y: n}, {X: n, Y: n}} {
			check(box(-far, -far, far, far), p, api.ErrArg)
			check(mask(octagon()), p, api.ErrArg)
			for _, c := range badCells() {
				check(c, p, api.ErrCell)
			}
		}
	}
	for _, c := range badCells() {
		check(c, api.Place{}, api.ErrCell)
	}
}
