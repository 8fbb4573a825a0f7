package regrid_test

import (
	"slices"
	"testing"

	"arrayarchive/api"
	"arrayarchive/regrid"
)

// P8.1

func TestValidCellExamples(t *testing.T) {
	good := []api.Cell{
		box(0, 0, 1, 1), box(-far, -far, far, far), box(far-1, -far, far, 1-far), cell(0, 0, 1, 0, 0, 1), cell(0, 0, 2, 1, 1, 2), cell(0, 0, 4, 0, 3, 3, 0, 4), octagon(),
		cell(-far, -far, far, far-1, far, far), cell(0, 0, 1000, 999, 1001, 1000), cell(1, 0, 2, 0, 3, 1, 3, 2, 2, 3, 1, 3, 0, 2),
	}
	for _, c := range good {
		for at := range c.Corners {
			if !regrid.ValidCell(begun(c, at)) || !regrid.ValidCell(mask(begun(c, at))) {
				t.Errorf("not valid: %v", begun(c, at))
			}
		}
		if !regrid.ValidGrid([]api.Cell{c}) {
			t.Errorf("no grid: %v", c)
		}
		backward := api.Cell{Corners: slices.Clone(c.Corners)}
		slices.Reverse(backward.Corners)
		if regrid.ValidCell(backward) {
			t.Errorf("valid: %v", backward)
		}
	}
	for _, c := range badCells() {
		if regrid.ValidCell(c) || regrid.ValidCell(mask(c)) {
			t.Errorf("valid: %v", c)
		}
		if regrid.ValidGrid([]api.Cell{c}) || regrid.ValidGrid([]api.Cell{box(90, 90, 91, 91), c}) {
			t.Errorf("a grid: %v", c)
		}
	}
}

// Turns to the left alone make no cell.
func TestStars(t *testing.T) {
	for _, c := range stars() {
		n := len(c.Corners)
		for i, p := range c.Corners {
			if crossOf(p, c.Corners[(i+1)%n], c.Corners[(i+2)%n]) <= 0 {
				t.Errorf("%v turns right", c)
			}
		}
		if regrid.ValidCell(c) || wantValid(c) {
			t.Errorf("valid: %v", c)
		}
	}
}

func TestValidCell(t *testing.T) {
	r := newRandom()
	valid := 0
	for i := range 100000 {
		c := api.Cell{Corners: make([]api.Place, 3+r.IntN(6))}
		size := 2 + i%8
		for k := range c.Corners {
			c.Corners[k] = api.Place{X: r.IntN(size), Y: r.IntN(size)}
		}
		if want := wantValid(c); regrid.ValidCell(c) != want {
			t.Errorf("ValidCell(%v) is %v", c, !want)
		} else if want {
			valid++
		}
	}
	if valid < 1000 {
		t.Errorf("only %d of the cells are valid", valid)
	}
}

// A valid cell whose corners are changed a little, or in another order.
func TestValidCellNearby(t *testing.T) {
	r := newRandom()
	for range 30000 {
		size := pick(r, []int{2, 4, 9, far})
		c := sample(r, -size, size)
		if !regrid.ValidCell(c) {
			t.Errorf("not valid: %v", c)
		}
		n := len(c.Corners)
		other := c
		switch r.IntN(5) {
		case 0:
			other.Corners = slices.Clone(c.Corners)
			i, k := r.IntN(n), r.IntN(n)
			other.Corners[i], other.Corners[k] = c.Corners[k], c.Corners[i]
		case 1:
			other.Corners = slices.Insert(slices.Clone(c.Corners), r.IntN(n+1), pick(r, c.Corners))
		case 2:
			at := r.IntN(n)
			p, q := c.Corners[at], c.Corners[(at+1)%n]
			other.Corners = slices.Insert(slices.Clone(c.Corners), at+1, api.Place{X: (p.X + q.X) / 2, Y: (p.Y + q.Y) / 2})
		case 3:
			other = with(c, r.IntN(n), api.Place{X: r.IntN(9) - 4, Y: r.IntN(9) - 4})
		case 4:
			other.Corners = nil
			step := 2 + r.IntN(3)
			for k := range n {
				other.Corners = append(other.Corners, c.Corners[k*step%n])
			}
		}
		if want := wantValid(other); regrid.ValidCell(other) != want {
			t.Errorf("ValidCell(%v) is %v", other, !want)
		}
	}
}

func TestValidGridExamples(t *testing.T) {
	rows := must[[]api.Cell](t)(regrid.Rectangles(axis(newRandom(), 65, -99, 99), []int{0, 1}))
	for _, g := range [][]api.Cell{
		nil, {}, {octagon()}, rows, {box(0, 0, 1, 1), box(1, 0, 2, 1), box(1, 1, 2, 2)}, {box(0, 0, 2, 2), cell(2, 2, 4, 0, 4, 2)}, {cell(0, 0, 4, 0, 0, 4), cell(4, 0, 4, 4, 0, 4)},
		{cell(0, 0, 2, 1, 0, 2), box(2, 1, 3, 2), cell(2, -9, 5, -9, 2, 1)}, {octagon(), cell(0, 0, 2, 0, 0, 2), cell(6, 6, 4, 6, 6, 4)}, {cell(0, 0, 3, 2, 0, 2), cell(0, 0, 6, 0, 6, 4)}, {box(0, 0, 1, 9), box(1, 3, 2, 4)},
	} {
		if !regrid.ValidGrid(g) {
			t.Errorf("no grid: %v", g)
		}
	}
	more := slices.Concat(rows, []api.Cell{box(0, 5, 1, 6)})
	for _, g := range [][]api.Cell{
		more, slices.Repeat(rows, 1000), {octagon(), octagon()}, {box(0, 0, 2, 2), cell(1, 1, 3, 1, 1, 3)}, {box(0, 0, 9, 9), box(4, 4, 5, 5)}, {box(4, 4, 5, 5), box(0, 0, 9, 9)}, {box(0, 4, 9, 5), box(4, 0, 5, 9)}, {box(0, 0, 2, 2), box(0, 1, 2, 3)},
		{mask(box(0, 0, 2, 2)), box(1, 1, 3, 3)}, {box(0, 0, 2, 2), mask(box(1, 1, 3, 3))}, {mask(box(0, 0, 2, 2)), mask(box(1, 1, 3, 3))}, {box(0, 0, 1, 1), box(1, 0, 2, 1), box(2, 0, 3, 1), cell(1, 0, 2, 0, 1, 1)},
		{cell(0, 0, 6, 0, 3, 6), cell(0, 4, 3, -2, 6, 4)}, {cell(-far, -far, far, far-1, far, far), cell(-far, -far, far-1, far-2, far, far, -far, far)}, {cell(0, 0, far, 1, 0, 1), cell(0, 0, far, 0, far-1, 1)},
	} {
		if regrid.ValidGrid(g) {
			t.Errorf("a grid: %v", g)
		}
	}
}

func TestValidGrid(t *testing.T) {
	r := newRandom()
	found := [2]int{}
	for range 20000 {
		size := pick(r, []int{3, 5, 8, 20, far})
		var g []api.Cell
		want := true
		for range 2 + r.IntN(3) {
			least := r.IntN(2*size) - size
			c := sample(r, least, min(least+1+r.IntN(size), far))
			for _, b := range g {
				want = want && wantCommon(b, c).Sign() == 0
			}
			g = append(g, c)
		}
		if regrid.ValidGrid(g) != want {
			t.Errorf("ValidGrid(%v) is %v", g, !want)
		}
		if want {
			found[1]++
		} else {
			found[0]++
		}
	}
	if min(found[0], found[1]) < 2000 {
		t.Errorf("grids that are not valid, and valid ones: %d", found)
	}
	for range 50 {
		g := mesh(r, 0, 0, 1+r.IntN(5), 1+r.IntN(5))
		if !regrid.ValidGrid(g) {
			t.Errorf("no grid: %v", g)
		}
	}
}

// P8.3

func checkCells(t *testing.T, name string, got []api.Cell, errno api.Errno, want []api.Cell, wantErrno api.Errno) {
	t.Helper()
	same := slices.EqualFunc(got, want, func(a, b api.Cell) bool { return slices.Equal(a.Corners, b.Corners) && a.Masked == b.Masked })
	if !same || errno != wantErrno {
		t.Errorf("%s: %v, error %d, want %v, error %d", name, got, errno, want, wantErrno)
	}
}

func TestRectangles(t *testing.T) {
	got, errno := regrid.Rectangles([]int{0, 2, 4}, []int{0, 1, 5})
	checkCells(t, "Rectangles", got, errno, []api.Cell{cell(0, 0, 2, 0, 2, 1, 0, 1), cell(2, 0, 4, 0, 4, 1, 2, 1), cell(0, 1, 2, 1, 2, 5, 0, 5), cell(2, 1, 4, 1, 4, 5, 2, 5)}, api.OK)
	got, errno = regrid.Rectangles([]int{-far, far}, []int{-far, 0, far})
	checkCells(t, "Rectangles of the plane", got, errno, []api.Cell{box(-far, -far, far, 0), box(-far, 0, far, far)}, api.OK)
	r := newRandom()
	for range 300 {
		nx := 1 + r.IntN(64)
		ny := 1 + r.IntN(64/nx)
		xs, ys := axis(r, nx+1, -99, 99), axis(r, ny+1, -99, 99)
		var want []api.Cell
		for j := range ny {
			for i := range nx {
				want = append(want, box(xs[i], ys[j], xs[i+1], ys[j+1]))
			}
		}
		got, errno := regrid.Rectangles(xs, ys)
		checkCells(t, "Rectangles", got, errno, want, api.OK)
		if !regrid.ValidGrid(got) {
			t.Errorf("Rectangles(%v, %v) are no grid", xs, ys)
		}
	}
}

func TestRectanglesErrors(t *testing.T) {
	r := newRandom()
	two := []int{0, 1}
	bad := [][]int{nil, {}, {0}, {0, 0}, {1, 0}, {0, 1, 1}, {0, 2, 1}, {0, 0, 1}, {2, 1, 3}, axis(r, 66, -99, 99), axis(r, 2000, -far, far)}
	for _, n := range beyond {
		bad = append(bad, []int{0, n}, []int{n, 0}, []int{0, 1, n}, []int{n, n + 1})
	}
	for _, l := range bad {
		for _, args := range [][2][]int{{l, two}, {two, l}, {l, l}} {
			got, errno := regrid.Rectangles(args[0], args[1])
			checkCells(t, "Rectangles", got, errno, nil, api.ErrArg)
		}
	}
	for _, n := range [][2]int{{64, 1}, {1, 64}, {8, 8}, {65, 1}, {1, 65}, {13, 5}, {9, 8}, {22, 3}, {33, 2}, {2000, 2000}} {
		got, errno := regrid.Rectangles(axis(r, n[0]+1, -9999, 9999), axis(r, n[1]+1, -9999, 9999))
		if n[0]*n[1] == 64 && (len(got) != 64 || errno != api.OK) || n[0]*n[1] > 64 && second(got, errno) != api.ErrArg {
			t.Errorf("Rectangles, %d by %d: %d cells, error %d", n[0], n[1], len(got), errno)
		}
	}
}

func TestMoved(t *testing.T) {
	r := newRandom()
	for range 3000 {
		size := pick(r, []int{3, 50, far})
		c := sample(r, -size, size)
		dx, dy := r.IntN(2*far+1)-far, r.IntN(2*far+1)-far
		if r.IntN(2) == 0 {
			dx, dy = dx%100, dy%100
		}
		want, wantErrno := []api.Cell{shifted(c, dx, dy)}, api.OK
		if !wantValid(want[0]) {
			want, wantErrno = []api.Cell{{}}, api.ErrArg
		}
		got, errno := regrid.Moved(c, dx, dy)
		checkCells(t, "Moved", []api.Cell{got}, errno, want, wantErrno)
	}
	low, high := box(-far, -far, -far+1, -far+1), box(far-1, far-1, far, far)
	for _, c := range []struct {
		c      api.Cell
		dx, dy int
		want   api.Cell
		errno  api.Errno
	}{
		{mask(box(0, 0, 1, 1)), 5, -3, mask(box(5, -3, 6, -2)), api.OK}, {box(0, 0, 1, 1), 0, 0, box(0, 0, 1, 1), api.OK}, {low, 2*far - 1, 2*far - 1, high, api.OK}, {high, 1 - 2*far, 1 - 2*far, low, api.OK},
		{low, 2 * far, 0, api.Cell{}, api.ErrArg}, {low, 0, 2 * far, api.Cell{}, api.ErrArg}, {low, -1, 0, api.Cell{}, api.ErrArg}, {low, 0, -1, api.Cell{}, api.ErrArg}, {mask(high), 1, 0, api.Cell{}, api.ErrArg}, {high, 0, 1, api.Cell{}, api.ErrArg},
	} {
		got, errno := regrid.Moved(c.c, c.dx, c.dy)
		checkCells(t, "Moved", []api.Cell{got}, errno, []api.Cell{c.want}, c.errno)
	}
}

func TestMovedErrors(t *testing.T) {
	for _, n := range append(beyond, 2*far, -2*far, 2*far+1, -2*far-1) {
		for _, d := range [][2]int{{n, 0}, {0, n}, {n, n}, {n, -n}, {1, n}} {
			for _, c := range []api.Cell{box(0, 0, 1, 1), mask(octagon())} {
				got, errno := regrid.Moved(c, d[0], d[1])
				checkCells(t, "Moved", []api.Cell{got}, errno, []api.Cell{{}}, api.ErrArg)
			}
			for _, c := range badCells() {
				got, errno := regrid.Moved(c, d[0], d[1])
				checkCells(t, "Moved", []api.Cell{got}, errno, []api.Cell{{}}, api.ErrCell)
			}
		}
	}
	for _, c := range badCells() {
		got, errno := regrid.Moved(c, 0, 0)
		checkCells(t, "Moved", []api.Cell{got}, errno, []api.Cell{{}}, api.ErrCell)
	}
}
