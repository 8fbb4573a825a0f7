package regrid_test

import (
	"math"
	"math/big"
	"math/rand/v2"
	"slices"
	"strconv"
	"strings"
	"testing"

	"arrayarchive/api"
)

const far = api.MaxPlace

var nines = strings.Repeat("9", api.MaxDigits)

var (
	notValues      = []string{"x", "-0", "01", "1.0", "2/4", "4/2", "1/1", "1/0", "+1", " ", "1 ", "-", "/", "1/-2", "\x00", nines + "0", "-1" + nines, "1/1" + nines}
	notLongNumbers = []string{"", "x", "-0", "01", "-01", "1.0", "0.5", "2/4", "4/2", "1/1", "0/1", "0/2", "1/0", "01/2", "1/02", "1/2/3", "+1", " ", "1 ", "-", "/", "1/", "/2", "1/-2", "--1", "1e3", "\x00", nines + nines + "/" + nines, "0" + nines + nines}
	beyond         = []int{far + 1, -far - 1, 1 << 31, -1 << 31, 1 << 62, -1 << 62, math.MaxInt, math.MinInt}
)

func newRandom() *rand.Rand {
	return rand.New(rand.NewPCG(8, 88))
}

func pick[T any](r *rand.Rand, l []T) T {
	return l[r.IntN(len(l))]
}

// cell returns the cell whose corners have these coordinates.
func cell(l ...int) api.Cell {
	var c api.Cell
	for i := 0; i+1 < len(l); i += 2 {
		c.Corners = append(c.Corners, api.Place{X: l[i], Y: l[i+1]})
	}
	return c
}

// box returns a rectangle.
func box(left, bottom, right, top int) api.Cell {
	return cell(left, bottom, right, bottom, right, top, left, top)
}

// mask returns a cell that is masked.
func mask(c api.Cell) api.Cell {
	c.Masked = true
	return c
}

func octagon() api.Cell {
	return cell(2, 0, 4, 0, 6, 2, 6, 4, 4, 6, 2, 6, 0, 4, 0, 2)
}

// with returns the cell with another corner.
func with(c api.Cell, at int, p api.Place) api.Cell {
	c.Corners = slices.Clone(c.Corners)
	c.Corners[at] = p
	return c
}

// begun returns the cell whose corners begin with another one.
func begun(c api.Cell, at int) api.Cell {
	c.Corners = slices.Concat(c.Corners[at:], c.Corners[:at])
	return c
}

// shifted returns the cell moved by dx and dy.
func shifted(c api.Cell, dx, dy int) api.Cell {
	c.Corners = slices.Clone(c.Corners)
	for i := range c.Corners {
		c.Corners[i].X += dx
		c.Corners[i].Y += dy
	}
	return c
}

// stars returns cells that turn left at each corner, but go around more than once.
func stars() []api.Cell {
	return []api.Cell{
		cell(0, -3, 3, 3, -4, -1, 4, -1, -3, 3), cell(10, 0, -2, 10, -9, -4, 6, -8, 6, 8, -9, 4, -2, -10), cell(10, 0, -9, 4, 6, -8, -2, 10, -2, -10, 6, 8, -9, -4),
		cell(0, 0, 1, 0, 0, 1, 0, 0, 1, 0, 0, 1), cell(0, 0, 1, 0, 1, 1, 0, 1, 0, 0, 1, 0, 1, 1, 0, 1), cell(0, 0, 9, 0, 9, 9, 0, 9, 1, 1, 8, 1, 8, 8, 1, 8),
	}
}

// badCells returns cells that are not valid.
func badCells() []api.Cell {
	l := []api.Cell{
		{}, {Masked: true}, cell(1, 1), cell(0, 0, 1, 1), cell(0, 0, 1, 0, 0, 1, 0, 1), cell(0, 0, 0, 0, 1, 0, 0, 1), cell(0, 0, 0, 0, 0, 0),
		cell(0, 0, 0, 1, 1, 0), cell(0, 1, 1, 1, 1, 0, 0, 0), // clockwise
		cell(0, 0, 1, 0, 2, 0, 0, 2), cell(0, 0, 2, 0, 1, 1, 0, 2), cell(0, 0, 1, 0, 2, 0), cell(0, 0, 2, 0, 1, 0), // on one line
		cell(0, 0, 4, 0, 1, 1, 0, 4), cell(0, 0, 2, 0, 2, 2, 0, 2, 1, 1), cell(0, 0, 2, 2, 2, 0, 0, 2), // not convex
		cell(4, 0, 7, 1, 9, 3, 10, 6, 9, 9, 7, 11, 4, 12, 1, 11, 0, 6), // nine corners
		cell(slices.Repeat([]int{0, 0, 1, 0, 0, 1}, 1000)...),
	}
	l = append(l, stars()...)
	for i, n := range beyond {
		l = append(l, with(box(0, 0, 1, 1), i%4, api.Place{X: n}), with(box(0, 0, 1, 1), i%4, api.Place{Y: n}), box(n, 0, n+1, 1), box(-far, -far, n, far), box(-far, -far, far, n))
	}
	return l
}

// The model: validity by the chapter's own words, and areas by cutting polygons of exact places.

func crossOf(a, b, c api.Place) int {
	return (b.X-a.X)*(c.Y-b.Y) - (b.Y-a.Y)*(c.X-b.X)
}

// onSide reports whether a place on the line of a side is on the side.
func onSide(a, b, p api.Place) bool {
	return min(a.X, b.X) <= p.X && p.X <= max(a.X, b.X) && min(a.Y, b.Y) <= p.Y && p.Y <= max(a.Y, b.Y)
}

// haveCommonPlace reports whether two sides have a place in common.
func haveCommonPlace(a, b, c, d api.Place) bool {
	signs := [4]int{sign(crossOf(a, b, c)), sign(crossOf(a, b, d)), sign(crossOf(c, d, a)), sign(crossOf(c, d, b))}
	if signs[0]*signs[1] < 0 && signs[2]*signs[3] < 0 {
		return true
	}
	return signs[0] == 0 && onSide(a, b, c) || signs[1] == 0 && onSide(a, b, d) || signs[2] == 0 && onSide(c, d, a) || signs[3] == 0 && onSide(c, d, b)
}

func sign(n int) int {
	switch {
	case n < 0:
		return -1
	case n > 0:
		return 1
	}
	return 0
}

// wantValid reports whether a cell is valid.
func wantValid(c api.Cell) bool {
	l := c.Corners
	n := len(l)
	if n < 3 || n > api.MaxCorners {
		return false
	}
	for _, p := range l {
		if p.X < -far || p.X > far || p.Y < -far || p.Y > far {
			return false
		}
	}
	for i := range n {
		if crossOf(l[i], l[(i+1)%n], l[(i+2)%n]) <= 0 {
			return false
		}
		for k := range n {
			neighbours := k == i || k == (i+1)%n || i == (k+1)%n
			if !neighbours && haveCommonPlace(l[i], l[(i+1)%n], l[k], l[(k+1)%n]) {
				return false
			}
		}
	}
	return true
}

type exactPlace struct {
	x, y *big.Rat
}

func exactPlaces(c api.Cell) []exactPlace {
	var l []exactPlace
	for _, p := range c.Corners {
		l = append(l, exactPlace{big.NewRat(int64(p.X), 1), big.NewRat(int64(p.Y), 1)})
	}
	return l
}

func product(x, y *big.Rat) *big.Rat { return new(big.Rat).Mul(x, y) }
func minus(x, y *big.Rat) *big.Rat   { return new(big.Rat).Sub(x, y) }
func plus(x, y *big.Rat) *big.Rat    { return new(big.Rat).Add(x, y) }

func exactCross(a, b, c exactPlace) *big.Rat {
	return minus(product(minus(b.x, a.x), minus(c.y, a.y)), product(minus(b.y, a.y), minus(c.x, a.x)))
}

// cut returns the part of a convex polygon to the left of a line.
func cut(polygon []exactPlace, from, to exactPlace) []exactPlace {
	var out []exactPlace
	for i, p := range polygon {
		q := polygon[(i+1)%len(polygon)]
		here, there := exactCross(from, to, p), exactCross(from, to, q)
		if here.Sign() >= 0 {
			out = append(out, p)
		}
		if here.Sign()*there.Sign() < 0 {
			part := new(big.Rat).Quo(here, minus(here, there))
			out = append(out, exactPlace{plus(p.x, product(part, minus(q.x, p.x))), plus(p.y, product(part, minus(q.y, p.y)))})
		}
	}
	return out
}

func areaOf(polygon []exactPlace) *big.Rat {
	sum := new(big.Rat)
	for i := 2; i < len(polygon); i++ {
		sum.Add(sum, exactCross(polygon[0], polygon[i-1], polygon[i]))
	}
	return sum.Quo(sum, big.NewRat(2, 1))
}

// wantCommon returns the area of the part that two valid cells have in common.
func wantCommon(a, b api.Cell) *big.Rat {
	part, other := exactPlaces(a), exactPlaces(b)
	for i, p := range other {
		part = cut(part, p, other[(i+1)%len(other)])
	}
	return areaOf(part)
}

// wantRound returns the area that a cell has in common with another one that goes around.
func wantRound(a, b api.Cell, period int) *big.Rat {
	sum := wantCommon(a, b)
	if period == 0 {
		return sum
	}
	for k := 1; k <= 2*far/period+1; k++ {
		sum.Add(sum, wantCommon(shifted(a, k*period, 0), b))
		sum.Add(sum, wantCommon(shifted(a, -k*period, 0), b))
	}
	return sum
}

// Samples.

// hull returns the convex polygon around some places.
func hull(places []api.Place) api.Cell {
	slices.SortFunc(places, func(a, b api.Place) int {
		if a.X != b.X {
			return a.X - b.X
		}
		return a.Y - b.Y
	})
	half := func() []api.Place {
		var l []api.Place
		for _, p := range places {
			for len(l) >= 2 && crossOf(l[len(l)-2], l[len(l)-1], p) <= 0 {
				l = l[:len(l)-1]
			}
			l = append(l, p)
		}
		return l[:len(l)-1]
	}
	lower := half()
	slices.Reverse(places)
	return api.Cell{Corners: append(lower, half()...)}
}

// sample returns a valid cell with coordinates from least to greatest.
func sample(r *rand.Rand, least, greatest int) api.Cell {
	coordinate := func() int { return least + r.IntN(greatest-least+1) }
	for {
		var places []api.Place
		for range 3 + r.IntN(8) {
			places = append(places, api.Place{X: coordinate(), Y: coordinate()})
		}
		c := hull(places)
		if wantValid(c) {
			c = begun(c, r.IntN(len(c.Corners)))
			c.Masked = r.IntN(4) == 0
			return c
		}
	}
}

// samplePair returns two cells of similar size, some of which have sides on the same lines.
func samplePair(r *rand.Rand) (api.Cell, api.Cell) {
	size := pick(r, []int{2, 3, 4, 6, 10, 100, far})
	a, b := sample(r, -size, size), sample(r, -size, size)
	if r.IntN(3) == 0 {
		b = shifted(a, r.IntN(5)-2, r.IntN(5)-2)
		if !wantValid(b) {
			b = a
		}
	}
	return a, b
}

// axis returns ascending numbers from least to greatest.
func axis(r *rand.Rand, count, least, greatest int) []int {
	seen := map[int]bool{}
	var l []int
	for len(l) < count {
		n := least + r.IntN(greatest-least+1)
		if !seen[n] {
			seen[n] = true
			l = append(l, n)
		}
	}
	slices.Sort(l)
	return l
}

// mesh returns a grid of quadrangles and triangles: near nx by ny squares with sides of 10. Together they cover what these cover, from (x, y) on.
func mesh(r *rand.Rand, x, y, nx, ny int) []api.Cell {
	corner := map[[2]int]api.Place{}
	for i := range nx + 1 {
		for j := range ny + 1 {
			p := api.Place{X: x + 10*i, Y: y + 10*j}
			if i > 0 && i < nx {
				p.X += r.IntN(5) - 2
			}
			if j > 0 && j < ny {
				p.Y += r.IntN(5) - 2
			}
			corner[[2]int{i, j}] = p
		}
	}
	var l []api.Cell
	for i := range nx {
		for j := range ny {
			a, b, c, d := corner[[2]int{i, j}], corner[[2]int{i + 1, j}], corner[[2]int{i + 1, j + 1}], corner[[2]int{i, j + 1}]
			if r.IntN(3) == 0 {
				l = append(l, api.Cell{Corners: []api.Place{a, b, c}}, api.Cell{Corners: []api.Place{a, c, d}})
			} else {
				l = append(l, api.Cell{Corners: []api.Place{a, b, c, d}})
			}
		}
	}
	r.Shuffle(len(l), func(i, j int) { l[i], l[j] = l[j], l[i] })
	return l
}

func exact(x string) *big.Rat {
	n, ok := new(big.Rat).SetString(x)
	if !ok {
		panic(x)
	}
	return n
}

// short returns the text of a number, or the missing value if it is too long.
func short(n *big.Rat) string {
	if len(strings.TrimPrefix(n.Num().String(), "-")) > api.MaxDigits || len(n.Denom().String()) > api.MaxDigits {
		return ""
	}
	return n.RatString()
}

// sampleValue returns a value; some are missing, and some long.
func sampleValue(r *rand.Rand) string {
	switch r.IntN(12) {
	case 0, 1:
		return ""
	case 2:
		return pick(r, []string{nines, "-" + nines, "1/" + nines, "-1/" + nines, "0", "18446744073709551616", "-18446744073709551617/2"})
	case 3, 4, 5:
		return big.NewRat(int64(r.IntN(41)-20), int64(1+r.IntN(6))).RatString()
	}
	return strconv.Itoa(r.IntN(21) - 10)
}

func sampleValues(r *rand.Rand, n int) []string {
	l := make([]string, n)
	for i := range l {
		l[i] = sampleValue(r)
	}
	return l
}

// sampleArea returns a long number greater than 0.
func sampleArea(r *rand.Rand) string {
	switch r.IntN(8) {
	case 0:
		return exact(strings.Repeat("7", 1+r.IntN(200)) + "/" + strings.Repeat("3", 1+r.IntN(200)) + "1").RatString()
	case 1, 2, 3:
		return big.NewRat(1+r.Int64N(40), 1+r.Int64N(6)).RatString()
	}
	return strconv.Itoa(1 + r.IntN(20))
}

// must returns a result that has no error.
func must[T any](t *testing.T) func(x T, errno api.Errno) T {
	return func(x T, errno api.Errno) T {
		t.Helper()
		if errno != api.OK {
			t.Fatalf("error %d", errno)
		}
		return x
	}
}

// second returns the error code of a result, or -1 if there is another one beside it that is not zero.
func second[T any](l []T, errno api.Errno) api.Errno {
	if errno != api.OK && len(l) > 0 {
		return -1
	}
	return errno
}
