package regrid

import (
	"iter"

	"arrayarchive/api"
	"arrayarchive/long"
)

// sides returns an iterator over the sides of a polygon, from corner to corner.
func sides(corners []api.Place) iter.Seq2[api.Place, api.Place] {
	return func(yield func(from, to api.Place) bool) {
		for i, from := range corners {
			if !yield(from, corners[(i+1)%len(corners)]) {
				return
			}
		}
	}
}

// turn returns twice the area of the triangle a, b, c: greater than 0 if c is to the left of the line from a to b, 0 if it is on it, and otherwise less than 0.
func turn(a, b, c api.Place) int {
	return (b.X-a.X)*(c.Y-b.Y) - (b.Y-a.Y)*(c.X-b.X)
}

// isConvex reports whether the corners of a polygon form a convex one, in counterclockwise order.
//
// They do exactly if, for each side, all the other corners are to the left of it. Turns to the left alone do not say so: they may go around more than once.
func isConvex(corners []api.Place) bool {
	n := len(corners)
	for i, from := range corners {
		for k := 2; k < n; k++ {
			if turn(from, corners[(i+1)%n], corners[(i+k)%n]) <= 0 {
				return false
			}
		}
	}
	return true
}

func moved(corners []api.Place, dx, dy int) []api.Place {
	out := make([]api.Place, len(corners))
	for i, p := range corners {
		out[i] = api.Place{X: p.X + dx, Y: p.Y + dy}
	}
	return out
}

// half returns half the sum of numbers.
func half(l ...long.Rat) long.Rat {
	return long.Total(l).Quo(long.Int(2))
}

// areaOf returns the area of a polygon: half the sum of what its sides sweep.
func areaOf(corners []api.Place) long.Rat {
	sum := 0
	for from, to := range sides(corners) {
		sum += swept(from, to)
	}
	return half(long.Int(sum))
}

// swept returns twice the area of the triangle of the origin and a side.
func swept(from, to api.Place) int {
	return turn(api.Place{}, from, to)
}

// areApart reports whether the part that two convex polygons have in common has no area: exactly then, one of them has a side with nothing of the other one to the left of it.
func areApart(a, b []api.Place) bool {
	return hasOutside(a, b) || hasOutside(b, a)
}

// hasOutside reports whether a polygon has a side with no place of the other polygon to the left of it.
func hasOutside(polygon, other []api.Place) bool {
	for from, to := range sides(polygon) {
		outside := true
		for _, p := range other {
			outside = outside && turn(from, to, p) <= 0
		}
		if outside {
			return true
		}
	}
	return false
}

// common returns the area of the part that two convex polygons have in common. The border of this part consists of the pieces of the sides of each polygon that are in the other one.
func common(a, b []api.Place) long.Rat {
	if areApart(a, b) {
		return long.Int(0)
	}
	var doubled []long.Rat
	for from, to := range sides(a) {
		doubled = append(doubled, sweptWithin(b, from, to, true))
	}
	// A piece on the borders of both polygons has been counted with a.
	for from, to := range sides(b) {
		doubled = append(doubled, sweptWithin(a, from, to, false))
	}
	return half(doubled...)
}

// sweptWithin returns what is swept by the piece of a side that is in a convex polygon. Whether a piece on the border is in it, the caller says.
func sweptWithin(polygon []api.Place, from, to api.Place, border bool) long.Rat {
	first, last := long.Int(0), long.Int(1) // the ends of the piece, as parts of the way along the side
	for p, q := range sides(polygon) {
		start, end := turn(p, q, from), turn(p, q, to)
		onLine := border && start == 0 && end == 0
		switch {
		case max(start, end) <= 0 && !onLine:
			return long.Int(0)
		case start < 0:
			first = greater(first, crossing(start, end))
		case end < 0:
			last = lesser(last, crossing(start, end))
		}
	}
	way := last.Sub(first)
	if way.Sign() <= 0 {
		return long.Int(0)
	}
	return way.Mul(long.Int(swept(from, to)))
}

// crossing returns the part of the way at which a number that goes evenly from start to end, of different signs, is 0.
func crossing(start, end int) long.Rat {
	return long.Int(start).Quo(long.Int(start - end))
}

func greater(x, y long.Rat) long.Rat {
	if x.Sub(y).Sign() < 0 {
		return y
	}
	return x
}

func lesser(x, y long.Rat) long.Rat {
	if x.Sub(y).Sign() > 0 {
		return y
	}
	return x
}
