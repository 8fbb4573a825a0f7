package regrid

import (
	"iter"
	"slices"

	"arrayarchive/api"
	"arrayarchive/long"
)

// rounds returns an iterator over a polygon moved by those multiples of the period that may bring it to another one. With the period 0 it is not moved.
func rounds(a, b []api.Place, period int) iter.Seq[[]api.Place] {
	return func(yield func([]api.Place) bool) {
		if period == 0 {
			yield(a)
			return
		}
		left, right := extent(a)
		start, end := extent(b)
		// The division rounds towards 0, so at most one move too many is made at each end.
		for k := (start - right) / period; k <= (end-left)/period; k++ {
			if !yield(moved(a, k*period, 0)) {
				return
			}
		}
	}
}

// extent returns the least and the greatest X of corners.
func extent(corners []api.Place) (int, int) {
	least, greatest := corners[0].X, corners[0].X
	for _, p := range corners {
		least, greatest = min(least, p.X), max(greatest, p.X)
	}
	return least, greatest
}

// overlap reports whether a cell has a part in common with another one, moved by a multiple of the period.
func overlap(a, b api.Cell, period int) bool {
	for corners := range rounds(a.Corners, b.Corners, period) {
		if !areApart(corners, b.Corners) {
			return true
		}
	}
	return false
}

func commonRound(a, b api.Cell, period int) long.Rat {
	var areas []long.Rat
	for corners := range rounds(a.Corners, b.Corners, period) {
		areas = append(areas, common(corners, b.Corners))
	}
	return long.Total(areas)
}

// checkRound returns the error of a period and of cells that are moved by it.
func checkRound(period int, cells ...api.Cell) api.Errno {
	if !areCells(cells...) {
		return api.ErrCell
	}
	isTooWide := func(c api.Cell) bool {
		left, right := extent(c.Corners)
		return period != 0 && right-left > period
	}
	if period < 0 || period > api.MaxPlace || slices.ContainsFunc(cells, isTooWide) {
		return api.ErrArg
	}
	return api.OK
}

// CommonRound returns the sum of the areas that a cell has in common with another one, moved by all multiples of the period.
func CommonRound(a, b api.Cell, period int) (string, api.Errno) {
	if errno := checkRound(period, a, b); errno != api.OK {
		return "", errno
	}
	return commonRound(a, b, period).Exact(), api.OK
}

// Weights returns the areas that the cells of two grids have in common, where they are not 0.
func Weights(from, to []api.Cell, period int) ([]api.Weight, api.Errno) {
	if errno := checkRound(period, slices.Concat(from, to)...); errno != api.OK {
		return nil, errno
	}
	if !isGrid(from, period) || !isGrid(to, period) {
		return nil, api.ErrCover
	}
	var weights []api.Weight
	for j, b := range to {
		for i, a := range from {
			if area := commonRound(a, b, period); area.Sign() > 0 {
				weights = append(weights, api.Weight{From: i, To: j, Area: area.Exact()})
			}
		}
	}
	return weights, api.OK
}
