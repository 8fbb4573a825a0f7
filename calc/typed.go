package calc

import (
	"slices"

	"arrayarchive/api"
	"arrayarchive/array"
)

// typed is a node whose dimensions and unit are known.
type typed interface {
	info() *result
	// reach returns, for each node below, the region that is used by one of this node.
	reach(chosen region) []region
	// value returns the elements of a region, made of the values of what it reaches.
	value(chosen region, below []api.Array) api.Array
}

// dimension is a dimension of an expression.
type dimension struct {
	name   string
	size   int
	group  string // the path of the group that has the origin, or empty if there is no origin
	origin []int  // the origin's positions
}

// result is what typed nodes have in common.
type result struct {
	dims  []dimension
	unit  api.Unit
	below []typed
}

func (r *result) info() *result {
	return r
}

// axisOf returns the place of the dimension with a name, or -1.
func (r *result) axisOf(name string) int {
	return slices.IndexFunc(r.dims, func(d dimension) bool { return d.name == name })
}

// axesOf returns the places of the dimensions of a node below.
func (r *result) axesOf(part typed) []int {
	axes := []int{}
	for _, d := range part.info().dims {
		axes = append(axes, r.axisOf(d.name))
	}
	return axes
}

// reach is that of an operation on elements.
func (r *result) reach(chosen region) []region {
	out := make([]region, len(r.below))
	for i, part := range r.below {
		for _, axis := range r.axesOf(part) {
			out[i] = append(out[i], chosen[axis])
		}
	}
	return out
}

// spread returns the arrays of the nodes below as arrays of the shape of a region.
func (r *result) spread(chosen region, below []api.Array) []api.Array {
	out := make([]api.Array, len(below))
	for i, a := range below {
		out[i], _ = array.Spread(a, r.axesOf(r.below[i]), chosen.shape())
	}
	return out
}

func (r *result) shape() []int {
	return sizesOf(r.dims)
}

func sizesOf(dims []dimension) []int {
	shape := make([]int, len(dims))
	for i, d := range dims {
		shape[i] = d.size
	}
	return shape
}

// fitting returns dimensions, or panics if they are too many or too large.
func fitting(dims []dimension) []dimension {
	if !array.ValidShape(sizesOf(dims)) {
		panic(api.ErrDims)
	}
	return dims
}

// united returns the dimensions of an operation on a result with some dimensions and another one.
func united(dims []dimension, b typed) []dimension {
	out := result{dims: slices.Clone(dims)}
	for _, d := range b.info().dims {
		axis := out.axisOf(d.name)
		if axis < 0 {
			out.dims = append(out.dims, d)
		} else if out.dims[axis].size != d.size {
			panic(api.ErrDims)
		}
	}
	return fitting(out.dims)
}

func noUnit() api.Unit {
	return api.Unit{Factor: "1", Offset: "0"}
}

func isPlain(u api.Unit) bool {
	return u.Offset == "0"
}

// evaluate returns the elements of a region.
func evaluate(n typed, chosen region) api.Array {
	if chosen.count() == 0 {
		return api.Array{Shape: chosen.shape()}
	}
	var below []api.Array
	for i, part := range n.reach(chosen) {
		below = append(below, evaluate(n.info().below[i], part))
	}
	return n.value(chosen, below)
}
