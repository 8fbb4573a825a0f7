package regrid_test

import (
	"fmt"
	"math/big"
	"math/rand/v2"
	"slices"
	"testing"

	"arrayarchive/api"
	"arrayarchive/regrid"
)

func common(t *testing.T, a, b api.Cell) string {
	t.Helper()
	return must[string](t)(regrid.Common(a, b))
}

// sum returns the sum of long numbers.
func sum(l ...string) *big.Rat {
	n := new(big.Rat)
	for _, x := range l {
		n.Add(n, exact(x))
	}
	return n
}

// P8.8

func TestCommonLaws(t *testing.T) {
	r := newRandom()
	for range 5000 {
		a, b := samplePair(r)
		want := common(t, a, b)
		name := fmt.Sprintf("Common(%v, %v)", a, b)
		checkText(t, name+" the other way", common(t, b, a), api.OK, want, api.OK)
		checkText(t, name+" begun elsewhere", common(t, begun(a, r.IntN(len(a.Corners))), begun(b, r.IntN(len(b.Corners)))), api.OK, want, api.OK)
		dx, dy := r.IntN(200)-100, r.IntN(200)-100
		c, errno := regrid.Moved(a, dx, dy)
		d, errnoToo := regrid.Moved(b, dx, dy)
		if errno == api.OK && errnoToo == api.OK {
			checkText(t, name+" of moved cells", common(t, c, d), api.OK, want, api.OK)
		}
		first, second := must[string](t)(regrid.Area(a)), must[string](t)(regrid.Area(b))
		if exact(want).Cmp(exact(first)) > 0 || exact(want).Cmp(exact(second)) > 0 {
			t.Errorf("%s is %s, the areas are %s and %s", name, want, first, second)
		}
		checkText(t, name+" with itself", common(t, a, begun(a, r.IntN(len(a.Corners)))), api.OK, first, api.OK)
	}
}

// slots returns ascending numbers from -size to size.
func slots(r *rand.Rand, count, size int) []int {
	return slices.Concat([]int{-size}, axis(r, count-1, -size+1, size-1), []int{size})
}

func TestRectanglesThatCover(t *testing.T) {
	r := newRandom()
	for range 500 {
		size := pick(r, []int{9, 100, far})
		g := must[[]api.Cell](t)(regrid.Rectangles(slots(r, 1+r.IntN(8), size), slots(r, 1+r.IntN(8), size)))
		c := sample(r, -size, size)
		var parts []string
		for _, b := range g {
			parts = append(parts, common(t, b, c))
		}
		checkText(t, "the parts of a cell", sum(parts...).RatString(), api.OK, must[string](t)(regrid.Area(c)), api.OK)
	}
}

// P8.9

func TestWeightsLaws(t *testing.T) {
	r := newRandom()
	for i := range 60 {
		from, to := mesh(r, 0, 0, 1+r.IntN(4), 1+r.IntN(4)), mesh(r, -5, -5, 5, 5)
		period := 0
		if i%2 == 0 {
			from, to, period = around(r, 4, 3), around(r, 5, 3), 60
		}
		covers := true
		if i%3 == 0 {
			to, covers = to[:len(to)/2], false
		}
		checkSourceParts(t, from, to, period, covers)
	}
}

// checkSourceParts checks the sums of the weights of each source cell.
func checkSourceParts(t *testing.T, from, to []api.Cell, period int, covers bool) {
	t.Helper()
	weights, areas := must[[]api.Weight](t)(regrid.Weights(from, to, period)), must[[]string](t)(regrid.Areas(from))
	for i, area := range areas {
		var parts []string
		for _, w := range weights {
			if w.From == i {
				parts = append(parts, w.Area)
			}
		}
		order := sum(parts...).Cmp(exact(area))
		if order > 0 || covers && order < 0 {
			t.Errorf("the weights of %v are %q, its area is %s", from[i], parts, area)
		}
	}
}

// around returns a grid that goes around a cylinder with the period 60 from Y 0 to 30, moved at random. Its cells have slanted sides.
func around(r *rand.Rand, nx, ny int) []api.Cell {
	xs, ys := axis(r, nx, 0, 59), slices.Concat([]int{0}, axis(r, ny-1, 1, 29), []int{30})
	xs = append(xs, xs[0]+60)
	slant := r.IntN(9) - 4
	var l []api.Cell
	for i := range nx {
		for j := range ny {
			low, high := slant*j, slant*(j+1)
			c := cell(xs[i]+low, ys[j], xs[i+1]+low, ys[j], xs[i+1]+high, ys[j+1], xs[i]+high, ys[j+1])
			if width(c) > 60 { // too wide for a cell
				return around(r, nx, ny)
			}
			l = append(l, shifted(c, 60*(r.IntN(5)-2), 0))
		}
	}
	return l
}

// P8.10

// field returns values of a field, some of which are missing.
func field(r *rand.Rand, n int) []string {
	vals := make([]string, n)
	for i := range vals {
		if r.IntN(6) > 0 {
			vals[i] = big.NewRat(r.Int64N(41)-20, 1+r.Int64N(3)).RatString()
		}
	}
	return vals
}

// masked returns cells some of which are masked.
func masked(r *rand.Rand, l []api.Cell) []api.Cell {
	l = slices.Clone(l)
	for i := range l {
		l[i].Masked = r.IntN(6) == 0
	}
	return l
}

// grids returns a grid, a grid that covers it, and their period.
func grids(t *testing.T, r *rand.Rand) ([]api.Cell, []api.Cell, int) {
	if r.IntN(2) == 0 {
		return around(r, 4, 3), around(r, 3, 2), 60
	}
	fine := must[[]api.Cell](t)(regrid.Rectangles(axis(r, 6, -9, 9), axis(r, 6, -9, 9)))
	if r.IntN(2) == 0 {
		fine = append(fine, cell(10, -10, 20, -10, 10, 5), cell(20, -10, 20, 3, 10, 10, 10, 5))
	}
	return fine, must[[]api.Cell](t)(regrid.Rectangles(slots(r, 1+r.IntN(6), 20), slots(r, 1+r.IntN(6), 20))), 0
}

func TestTotals(t *testing.T) {
	r := newRandom()
	compared := [2]int{}
	for range 600 {
		from, to, period := grids(t, r)
		weights, areas := must[[]api.Weight](t)(regrid.Weights(from, to, period)), must[[]string](t)(regrid.Areas(from))
		from = masked(r, from)
		whole := r.IntN(2) == 0
		if !whole {
			to = masked(r, to)
		}
		vals := field(r, len(from))
		values, covered, errno := regrid.Regrid(weights, from, vals, to)
		if errno != api.OK {
			t.Fatalf("Regrid: error %d", errno)
		}
		if isTooLong(values, covered) {
			continue
		}
		after := must[string](t)(regrid.Total(values, covered))
		want := new(big.Rat)
		for _, w := range weights {
			if !from[w.From].Masked && vals[w.From] != "" && !to[w.To].Masked {
				want.Add(want, product(exact(w.Area), exact(vals[w.From])))
			}
		}
		checkText(t, "the Total by weights", after, api.OK, want.RatString(), api.OK)
		compared[0]++
		if whole {
			for i, c := range from {
				if c.Masked {
					vals[i] = ""
				}
			}
			checkText(t, "the Total", after, api.OK, must[string](t)(regrid.Total(vals, areas)), api.OK)
			compared[1]++
		}
	}
	if compared[1] < 100 {
		t.Errorf("only %d totals are compared", compared)
	}
}

// isTooLong reports whether a value is missing though its cell is covered.
func isTooLong(values, covered []string) bool {
	for j := range values {
		if values[j] == "" && covered[j] != "0" {
			return true
		}
	}
	return false
}

func TestFields(t *testing.T) {
	r := newRandom()
	present := 0
	for range 300 {
		from, to, period := grids(t, r)
		weights := must[[]api.Weight](t)(regrid.Weights(from, to, period))
		from, to = masked(r, from), masked(r, to)
		vals := field(r, len(from))
		constant := slices.Clone(vals)
		least, greatest := "", ""
		for i, x := range vals {
			if x == "" || from[i].Masked {
				continue
			}
			constant[i] = "-22/7"
			if least == "" || exact(x).Cmp(exact(least)) < 0 {
				least = x
			}
			if greatest == "" || exact(x).Cmp(exact(greatest)) > 0 {
				greatest = x
			}
		}
		values, _, errno := regrid.Regrid(weights, from, constant, to)
		if errno != api.OK {
			t.Fatalf("Regrid: error %d", errno)
		}
		for _, x := range values {
			if x != "-22/7" && x != "" {
				t.Errorf("the constant -22/7 becomes %s", x)
			}
			if x != "" {
				present++
			}
		}
		values, _, errno = regrid.Regrid(weights, from, vals, to)
		if errno != api.OK {
			t.Fatalf("Regrid: error %d", errno)
		}
		for _, x := range values {
			if x != "" && (exact(x).Cmp(exact(least)) < 0 || exact(x).Cmp(exact(greatest)) > 0) {
				t.Errorf("the value %s is not from %s to %s", x, least, greatest)
			}
		}
	}
	if present < 1000 {
		t.Errorf("only %d values are present", present)
	}
}

// Weights that are merged are those of the coarser cells.
func TestMergeOfRectangles(t *testing.T) {
	r := newRandom()
	for range 50 {
		from := mesh(r, -20, -20, 4, 4)
		xs, ys := slots(r, 6, 30), slots(r, 6, 30)
		fine, coarse := must[[]api.Cell](t)(regrid.Rectangles(xs, ys)), must[[]api.Cell](t)(regrid.Rectangles([]int{xs[0], xs[3], xs[6]}, []int{ys[0], ys[3], ys[6]}))
		part := make([]int, len(fine))
		for i := range part {
			part[i] = i/18*2 + i%6/3
		}
		got, errno := regrid.Merge(must[[]api.Weight](t)(regrid.Weights(from, fine, 0)), part, len(coarse))
		checkWeights(t, "Merge", got, errno, must[[]api.Weight](t)(regrid.Weights(from, coarse, 0)), api.OK)
	}
}

// P8.11

func TestRounds(t *testing.T) {
	r := newRandom()
	for range 3000 {
		size := pick(r, []int{4, 9, 50, 1000})
		a, b := sample(r, -size, size), sample(r, -size, size)
		period := max(width(a), width(b)) + r.IntN(size)
		want := must[string](t)(regrid.CommonRound(a, b, period))
		for range 4 {
			most := (far - size) / period
			k, n := r.IntN(2*most+1)-most, r.IntN(9)-4
			c, d := must[api.Cell](t)(regrid.Moved(a, k*period, 0)), must[api.Cell](t)(regrid.Moved(b, n*period, 0))
			name := fmt.Sprintf("CommonRound(%v, %v, %d)", c, d, period)
			checkText(t, name, must[string](t)(regrid.CommonRound(c, d, period)), api.OK, want, api.OK)
			checkText(t, name+" the other way", must[string](t)(regrid.CommonRound(d, c, period)), api.OK, want, api.OK)
		}
		checkText(t, "CommonRound with a large period", must[string](t)(regrid.CommonRound(a, b, 4*size)), api.OK, common(t, a, b), api.OK)
	}
}
