package calc

import (
	"slices"

	"arrayarchive/api"
	"arrayarchive/array"
)

// base returns the expression along which a call goes, typed, and the place of the dimension, or panics with their error.
func (n *along) base(w *world) (typed, int) {
	of := n.of.infer(w)
	axis := of.info().axisOf(n.dim)
	if axis < 0 {
		panic(api.ErrDims)
	}
	return of, axis
}

// folded is what typed calls with a reduction have in common.
type folded struct {
	result
	axis int
	kind int // of the reduction
	// members returns the positions along the axis of the node below that are reduced to the element at a position.
	members func(position int) []int
}

// fold returns what a call has of the expression along which it goes, or panics with the error of both.
func (n *reducing) fold(w *world) folded {
	of, axis := n.base(w)
	own := of.info()
	unit := own.unit
	switch n.red {
	case "sum":
		if !isPlain(unit) {
			panic(api.ErrUnit)
		}
	case "count":
		unit = noUnit()
	}
	common := result{slices.Clone(own.dims), unit, []typed{of}}
	return folded{result: common, axis: axis, kind: numberOf(reductionWords(), n.red)}
}

// size returns the size of the axis of the node below.
func (f *folded) size() int {
	return f.below[0].info().dims[f.axis].size
}

// union returns the members of some positions.
func (f *folded) union(chosen []int) []int {
	isMember := make([]bool, f.size())
	for _, position := range chosen {
		for _, member := range f.members(position) {
			isMember[member] = true
		}
	}
	var out []int
	for position, is := range isMember {
		if is {
			out = append(out, position)
		}
	}
	return out
}

func (f *folded) reach(chosen region) []region {
	return []region{chosen.replaced(f.axis, f.union(chosen[f.axis]))}
}

func (f *folded) value(chosen region, below []api.Array) api.Array {
	place := map[int]int{} // of a position among those that are reached
	for i, position := range f.union(chosen[f.axis]) {
		place[position] = i
	}
	groups := make([][]int, len(chosen[f.axis]))
	for i, position := range chosen[f.axis] {
		for _, member := range f.members(position) {
			groups[i] = append(groups[i], place[member])
		}
	}
	out, _ := array.Group(below[0], f.axis, f.kind, groups)
	return out
}

// typedReduction leaves out the axis, and so has no members along it.
type typedReduction struct {
	*reduction
	folded
}

func (n *reduction) infer(w *world) typed {
	f := n.fold(w)
	f.dims = fitting(slices.Delete(f.dims, f.axis, f.axis+1))
	return &typedReduction{n, f}
}

func (n *typedReduction) reach(chosen region) []region {
	return []region{slices.Insert(slices.Clone(chosen), n.axis, span(0, n.size()))}
}

func (n *typedReduction) value(chosen region, below []api.Array) api.Array {
	out, _ := array.Reduce(below[0], n.axis, n.kind)
	return out
}

type typedWindow struct {
	*window
	folded
}

func (n *window) infer(w *world) typed {
	f := n.fold(w)
	length := integer(n.length)
	if length == 0 {
		panic(api.ErrArg)
	}
	f.members = func(position int) []int {
		return span(max(0, position-length+1), position+1)
	}
	return &typedWindow{n, f}
}

type typedGrouping struct {
	*grouping
	folded
}

func (n *grouping) infer(w *world) typed {
	f := n.fold(w)
	groups := w.groups(f.dims[f.axis], numberOf(fieldWords(), n.field), n.word == "cycle")
	if other := f.axisOf(n.field); other >= 0 && other != f.axis {
		panic(api.ErrDims)
	}
	f.dims[f.axis] = dimension{name: n.field, size: len(groups)}
	f.members = func(position int) []int {
		return groups[position]
	}
	return &typedGrouping{n, f}
}

type typedSlice struct {
	*slice
	result
	axis      int
	positions []int // of the node below
}

func (n *slice) infer(w *world) typed {
	of, axis := n.base(w)
	own := of.info()
	d := own.dims[axis]
	positions, ok := positionsOf(d.size, api.Cut{Start: integer(n.start), Count: integer(n.count), Step: integer(n.step)})
	if !ok {
		panic(api.ErrArg)
	}
	dims := slices.Clone(own.dims)
	dims[axis].size = len(positions)
	if d.group != "" {
		dims[axis].origin = picked(d.origin, positions)
	}
	return &typedSlice{n, result{dims, own.unit, []typed{of}}, axis, positions}
}

// picked returns the elements of a list at some positions.
func picked(list, positions []int) []int {
	out := make([]int, len(positions))
	for i, position := range positions {
		out[i] = list[position]
	}
	return out
}

func (n *typedSlice) reach(chosen region) []region {
	return []region{chosen.replaced(n.axis, picked(n.positions, chosen[n.axis]))}
}

func (n *typedSlice) value(chosen region, below []api.Array) api.Array {
	return below[0]
}
