package regrid_test

import (
	"fmt"
	"math/rand/v2"
	"slices"
	"testing"

	"arrayarchive/api"
	"arrayarchive/regrid"
)

// arguments are what the functions take: each list has memory behind its end, which must not be used.
type arguments struct {
	from, to    []api.Cell
	weights     []api.Weight
	vals, areas []string
	xs, ys      []int
	part        []int
}

func padded[T any](l []T, more T) []T {
	return append(slices.Clone(l), more, more, more)[:len(l)]
}

func paddedCells(l ...api.Cell) []api.Cell {
	l = padded(l, api.Cell{Corners: []api.Place{{X: 77}}})
	for i := range l {
		l[i].Corners = padded(l[i].Corners, api.Place{X: 77})
	}
	return l
}

func newArguments() *arguments {
	return &arguments{
		from: paddedCells(box(0, 0, 2, 1), mask(box(2, 0, 4, 1)), cell(0, 1, 4, 1, 0, 3)), to: paddedCells(cell(0, 0, 4, 0, 0, 4), box(-5, -5, 0, 0)),
		weights: padded([]api.Weight{{From: 0, To: 0, Area: "2"}, {From: 2, To: 0, Area: "7/2"}, {From: 2, To: 1, Area: "1"}}, api.Weight{From: -7}),
		vals:    padded([]string{"1", "", "2"}, "77"), areas: padded([]string{"1", "1/2", "9"}, "77"), xs: padded([]int{0, 1, 3}, 77), ys: padded([]int{-2, 5}, 77), part: padded([]int{1, 0}, 77),
	}
}

// text returns everything that the arguments have, with the memory behind their ends.
func (in *arguments) text() string {
	s := fmt.Sprintf("%v %v %v %v %v %q %q %v %v %v", in.from, in.to, in.from[:cap(in.from)], in.to[:cap(in.to)], in.weights[:cap(in.weights)], in.vals[:cap(in.vals)], in.areas[:cap(in.areas)], in.xs[:cap(in.xs)], in.ys[:cap(in.ys)], in.part[:cap(in.part)])
	for _, c := range slices.Concat(in.from, in.to) {
		s += fmt.Sprint(c.Corners[:cap(c.Corners)])
	}
	return s
}

// spoil changes all lists.
func (in *arguments) spoil() {
	spoilCells(in.from)
	spoilCells(in.to)
	spoilAll(in.weights, api.Weight{From: 99})
	spoilAll(in.vals, "99")
	spoilAll(in.areas, "99")
	spoilAll(in.xs, 99)
	spoilAll(in.ys, 99)
	spoilAll(in.part, 99)
}

func spoilAll[T any](l []T, x T) {
	for i := range l {
		l[i] = x
	}
}

func spoilCells(l []api.Cell) {
	for i := range l {
		spoilAll(l[i].Corners, api.Place{X: 99})
		l[i].Masked = !l[i].Masked
	}
}

// result is what a function returns, as lists.
type result struct {
	texts   []string
	more    []string
	cells   []api.Cell
	weights []api.Weight
	errno   api.Errno
}

func (r result) text() string {
	return fmt.Sprintf("%q %q %v %v %d", r.texts, r.more, r.cells, r.weights, r.errno)
}

func (r result) spoil() {
	spoilAll(r.texts, "88")
	spoilAll(r.more, "89")
	spoilCells(r.cells)
	spoilAll(r.weights, api.Weight{To: 88})
}

// calls returns calls of all functions.
func calls() map[string]func(in *arguments) result {
	text := func(x string, errno api.Errno) result { return result{texts: []string{x}, errno: errno} }
	return map[string]func(in *arguments) result{
		"ValidCell": func(in *arguments) result { return result{texts: []string{fmt.Sprint(regrid.ValidCell(in.from[0]))}} },
		"ValidGrid": func(in *arguments) result { return result{texts: []string{fmt.Sprint(regrid.ValidGrid(in.from))}} },
		"Area":      func(in *arguments) result { return text(regrid.Area(in.from[2])) },
		"Areas": func(in *arguments) result {
			l, errno := regrid.Areas(in.from)
			return result{texts: l, errno: errno}
		},
		"Common": func(in *arguments) result { return text(regrid.Common(in.from[2], in.to[0])) },
		"Contains": func(in *arguments) result {
			is, errno := regrid.Contains(in.from[2], api.Place{X: 1, Y: 2})
			return result{texts: []string{fmt.Sprint(is)}, errno: errno}
		},
		"Rectangles": func(in *arguments) result {
			l, errno := regrid.Rectangles(in.xs, in.ys)
			return result{cells: l, errno: errno}
		},
		"Moved": func(in *arguments) result {
			c, errno := regrid.Moved(in.from[1], 3, 4)
			return result{cells: []api.Cell{c}, errno: errno}
		},
		"Moved by nothing": func(in *arguments) result {
			c, errno := regrid.Moved(in.from[1], 0, 0)
			return result{cells: []api.Cell{c}, errno: errno}
		},
		"CommonRound": func(in *arguments) result { return text(regrid.CommonRound(in.from[2], in.to[1], 5)) },
		"Weights": func(in *arguments) result {
			l, errno := regrid.Weights(in.from, in.to, 0)
			return result{weights: l, errno: errno}
		},
		"Weights around": func(in *arguments) result {
			l, errno := regrid.Weights(in.from, in.to[:1], 5)
			return result{weights: l, errno: errno}
		},
		"Regrid": func(in *arguments) result {
			v, c, errno := regrid.Regrid(in.weights, in.from, in.vals, in.to)
			return result{texts: v, more: c, errno: errno}
		},
		"Total": func(in *arguments) result { return text(regrid.Total(in.vals, in.areas)) },
		"Merge": func(in *arguments) result {
			l, errno := regrid.Merge(in.weights, in.part, 2)
			return result{weights: l, errno: errno}
		},
	}
}

// R4: arguments are neither changed nor kept, results are new memory, and no two lists of one share any.
func TestMemory(t *testing.T) {
	for name, call := range calls() {
		in := newArguments()
		before := in.text()
		got := call(in)
		text := got.text()
		if got.errno != api.OK {
			t.Fatalf("%s: error %d", name, got.errno)
		}
		if in.text() != before {
			t.Errorf("%s changes an argument", name)
		}
		in.spoil()
		if got.text() != text {
			t.Errorf("the result of %s shares memory with an argument", name)
		}
		in = newArguments()
		got = call(in)
		got.spoil()
		if in.text() != before {
			t.Errorf("a change of the result of %s changes an argument", name)
		}
		if again := call(in); again.text() != text {
			t.Errorf("%s gives another result behind a change of the first one", name)
		}
		for i, c := range got.cells {
			spoilAll(c.Corners, api.Place{X: i})
		}
		for i, c := range got.cells {
			for _, p := range c.Corners {
				if p.X != i {
					t.Errorf("two lists of the result of %s share memory", name)
				}
			}
		}
		if len(got.texts) > 0 && len(got.more) > 0 && got.texts[0] == got.more[0] {
			t.Errorf("two lists of the result of %s share memory", name)
		}
	}
}

// LANGUAGE.md's rule on state: equal calls give equal results, whatever was called in between.
func TestCallsInAnyOrder(t *testing.T) {
	first := map[string]string{}
	for range 20 { // a map is ranged over in another order each time
		for name, call := range calls() {
			text := call(newArguments()).text()
			if first[name] == "" {
				first[name] = text
			}
			if first[name] != text {
				t.Errorf("%s gives %s, and before it gave %s", name, text, first[name])
			}
		}
	}
}

// R1: no function panics, whatever its arguments are. R2: beside an error there is nothing else.
func TestAnyArguments(t *testing.T) {
	r := newRandom()
	texts := slices.Concat(notValues, notLongNumbers, []string{"0", "1", "-1/2", "7/3", nines})
	for range 20000 {
		number := func() int { return anyNumber(r) }
		cells := func() []api.Cell {
			return someOf(r, func() api.Cell {
				if r.IntN(3) == 0 {
					return pick(r, []api.Cell{octagon(), box(0, 0, 2, 2), box(2, 0, 4, 2), mask(octagonAt(6))})
				}
				return api.Cell{Corners: someOf(r, func() api.Place { return api.Place{X: number(), Y: number()} }), Masked: r.IntN(2) == 0}
			})
		}
		weights := someOf(r, func() api.Weight { return api.Weight{From: number(), To: number(), Area: pick(r, texts)} })
		list := func() []string { return someOf(r, func() string { return pick(r, texts) }) }
		in := &arguments{from: append(cells(), box(7, 0, 8, 1)), to: append(cells(), octagon()), weights: weights, vals: list(), areas: list(), xs: someOf(r, number), ys: someOf(r, number), part: someOf(r, number)}
		callAll(t, in, number)
	}
}

func anyNumber(r *rand.Rand) int {
	if r.IntN(4) == 0 {
		return pick(r, beyond)
	}
	return r.IntN(7) - 2
}

func someOf[T any](r *rand.Rand, f func() T) []T {
	l := make([]T, r.IntN(6))
	for i := range l {
		l[i] = f()
	}
	return l
}

// callAll calls all functions, and checks that an error stands alone.
func callAll(t *testing.T, in *arguments, number func() int) {
	t.Helper()
	alone := func(name string, errno api.Errno, zero bool) {
		t.Helper()
		if errno != api.OK && !zero {
			t.Errorf("%s: another result beside the error %d", name, errno)
		}
	}
	a, b := in.from[0], in.to[0]
	regrid.ValidCell(a)
	regrid.ValidGrid(in.from)
	x, errno := regrid.Area(a)
	alone("Area", errno, x == "")
	l, errno := regrid.Areas(in.from)
	alone("Areas", errno, len(l) == 0)
	x, errno = regrid.Common(a, b)
	alone("Common", errno, x == "")
	is, errno := regrid.Contains(a, api.Place{X: number(), Y: number()})
	alone("Contains", errno, !is)
	cells, errno := regrid.Rectangles(in.xs, in.ys)
	alone("Rectangles", errno, len(cells) == 0)
	c, errno := regrid.Moved(a, number(), number())
	alone("Moved", errno, len(c.Corners) == 0 && !c.Masked)
	x, errno = regrid.CommonRound(a, b, number())
	alone("CommonRound", errno, x == "")
	weights, errno := regrid.Weights(in.from, in.to, number())
	alone("Weights", errno, len(weights) == 0)
	values, covered, errno := regrid.Regrid(in.weights, in.from, in.vals, in.to)
	alone("Regrid", errno, len(values) == 0 && len(covered) == 0)
	x, errno = regrid.Total(in.vals, in.areas)
	alone("Total", errno, x == "")
	weights, errno = regrid.Merge(in.weights, in.part, number())
	alone("Merge", errno, len(weights) == 0)
}
