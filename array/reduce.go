package array

import (
	"iter"
	"slices"

	"arrayarchive/api"
	"arrayarchive/long"
	"arrayarchive/quantity"
)

// numbers are the values of a list that are not missing.
type numbers []long.Rat

// reduction returns the reduction with a number, or nil.
func reduction(red int) func(numbers) string {
	switch red {
	case api.RedSum:
		return numbers.sum
	case api.RedMean:
		return numbers.mean
	case api.RedMin:
		return numbers.least
	case api.RedMax:
		return numbers.greatest
	case api.RedCount:
		return numbers.count
	}
	return nil
}

// text returns the text of a number, or the missing value if it is too long.
func text(n long.Rat) string {
	s, _ := n.Text(api.MaxDigits)
	return s
}

func (l numbers) sum() string {
	return text(long.Total(l))
}

func (l numbers) mean() string {
	if len(l) == 0 {
		return ""
	}
	return text(long.Total(l).Quo(long.Int(len(l))))
}

func (l numbers) least() string {
	return l.extreme(func(order int) bool { return order < 0 })
}

func (l numbers) greatest() string {
	return l.extreme(func(order int) bool { return order > 0 })
}

// extreme returns the number whose order to each other one, unless they are equal, is a certain one.
func (l numbers) extreme(beats func(order int) bool) string {
	if len(l) == 0 {
		return ""
	}
	best := l[0]
	for _, n := range l[1:] {
		if beats(n.Sub(best).Sign()) {
			best = n
		}
	}
	return text(best)
}

func (l numbers) count() string {
	return quantity.FromInt(len(l))
}

// Reduced returns the reduction of a list of values.
func Reduced(l []string, red int) (string, api.Errno) {
	reduce := reduction(red)
	if reduce == nil || !areValues(l) {
		return "", api.ErrArg
	}
	var present numbers
	for _, x := range l {
		if n, ok := long.Read(x); ok {
			present = append(present, n)
		}
	}
	return reduce(present), api.OK
}

// checkAlong returns the error of an array, one of its axes, and a reduction.
func checkAlong(a api.Array, axis, red int) api.Errno {
	if !Valid(a) {
		return api.ErrShape
	}
	if axis < 0 || axis >= len(a.Shape) || reduction(red) == nil {
		return api.ErrArg
	}
	return api.OK
}

// along returns a with another size of an axis, whose element k along it is the reduction of the elements of a at the positions of part(k).
func along(a api.Array, axis, red, size int, part func(k int) iter.Seq[int]) (api.Array, api.Errno) {
	shape := slices.Clone(a.Shape)
	shape[axis] = size
	if !ValidShape(shape) {
		return api.Array{}, api.ErrShape
	}
	exact := make(numbers, len(a.Vals))
	for place, x := range a.Vals {
		exact[place], _ = long.Read(x)
	}
	reduce := reduction(red)
	distance := product(a.Shape[axis+1:])
	present := make(numbers, 0, a.Shape[axis])
	return build(shape, func(index []int) string {
		first := slices.Clone(index)
		first[axis] = 0
		start := placeOf(a.Shape, first)
		present = present[:0]
		for position := range part(index[axis]) {
			place := start + position*distance
			if a.Vals[place] != "" {
				present = append(present, exact[place])
			}
		}
		return reduce(present)
	}), api.OK
}

// span returns an iterator over the positions from the first one to less than the end.
func span(first, end int) iter.Seq[int] {
	return func(yield func(int) bool) {
		for position := first; position < end; position++ {
			if !yield(position) {
				return
			}
		}
	}
}

// Reduce returns the array without a dimension, whose elements are the reductions along it.
func Reduce(a api.Array, axis, red int) (api.Array, api.Errno) {
	if errno := checkAlong(a, axis, red); errno != api.OK {
		return api.Array{}, errno
	}
	whole := func(k int) iter.Seq[int] { return span(0, a.Shape[axis]) }
	out, errno := along(a, axis, red, 1, whole)
	if errno != api.OK {
		return api.Array{}, errno
	}
	out.Shape = slices.Delete(out.Shape, axis, axis+1)
	return out, api.OK
}

// Window returns an array of the same shape whose elements along an axis are the reductions of n elements, up to the one in their place.
func Window(a api.Array, axis, red, n int) (api.Array, api.Errno) {
	if errno := checkAlong(a, axis, red); errno != api.OK {
		return api.Array{}, errno
	}
	if n < 1 {
		return api.Array{}, api.ErrArg
	}
	return along(a, axis, red, a.Shape[axis], func(k int) iter.Seq[int] {
		return span(max(0, k-n+1), k+1)
	})
}

// Group returns the array whose elements along an axis are the reductions of those at the positions of each group.
func Group(a api.Array, axis, red int, groups [][]int) (api.Array, api.Errno) {
	if errno := checkAlong(a, axis, red); errno != api.OK {
		return api.Array{}, errno
	}
	if !areGroups(groups, a.Shape[axis]) {
		return api.Array{}, api.ErrArg
	}
	return along(a, axis, red, len(groups), func(k int) iter.Seq[int] {
		return slices.Values(groups[k])
	})
}

// areGroups reports whether groups have positions of a dimension with a size, each at most once in one group.
func areGroups(groups [][]int, size int) bool {
	last := make([]int, size) // the last group with each position, numbered from 1 on
	for k, group := range groups {
		for _, position := range group {
			if position < 0 || position >= size || last[position] == k+1 {
				return false
			}
			last[position] = k + 1
		}
	}
	return true
}
