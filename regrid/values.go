package regrid

import (
	"cmp"
	"slices"

	"arrayarchive/api"
	"arrayarchive/long"
	"arrayarchive/quantity"
)

func isNoValue(s string) bool {
	return !quantity.Fits(api.TypeNum, s)
}

// longNumber returns the number whose text is s, however long it is.
func longNumber(s string) (long.Rat, bool) {
	n, ok := long.Read(s)
	if !ok || n.Exact() != s {
		return long.Rat{}, false
	}
	return n, true
}

// pair is what a weight is for: a source cell and a target cell.
type pair struct {
	from, to int
}

func pairOf(w api.Weight) pair {
	return pair{w.From, w.To}
}

// areasOf returns the areas of weights, or false if one of them is no long number greater than 0.
func areasOf(weights []api.Weight) ([]long.Rat, bool) {
	areas := make([]long.Rat, len(weights))
	for i, w := range weights {
		n, ok := longNumber(w.Area)
		if !ok || n.Sign() <= 0 {
			return nil, false
		}
		areas[i] = n
	}
	return areas, true
}

// arePairs reports whether weights are for different pairs of some numbers of source and target cells.
func arePairs(weights []api.Weight, sources, targets int) bool {
	seen := map[pair]bool{}
	for _, w := range weights {
		if w.From < 0 || w.From >= sources || w.To < 0 || w.To >= targets || seen[pairOf(w)] {
			return false
		}
		seen[pairOf(w)] = true
	}
	return true
}

// Regrid returns the values of the target cells, and how much of each one is covered.
func Regrid(weights []api.Weight, from []api.Cell, vals []string, to []api.Cell) ([]string, []string, api.Errno) {
	if len(vals) != len(from) || slices.ContainsFunc(vals, isNoValue) || !arePairs(weights, len(from), len(to)) {
		return nil, nil, api.ErrArg
	}
	areas, ok := areasOf(weights)
	if !ok {
		return nil, nil, api.ErrArg
	}
	counts := func(w api.Weight) bool {
		return !from[w.From].Masked && vals[w.From] != "" && !to[w.To].Masked
	}
	parts, products := map[int][]long.Rat{}, map[int][]long.Rat{} // the areas of each target cell, and these multiplied by the values
	for i, w := range weights {
		if counts(w) {
			value, _ := long.Read(vals[w.From])
			parts[w.To] = append(parts[w.To], areas[i])
			products[w.To] = append(products[w.To], areas[i].Mul(value))
		}
	}
	values, covered := make([]string, len(to)), make([]string, len(to))
	for j := range to {
		area := long.Total(parts[j])
		covered[j] = area.Exact()
		if area.Sign() > 0 {
			values[j], _ = long.Total(products[j]).Quo(area).Text(api.MaxDigits)
		}
	}
	return values, covered, api.OK
}

// Total returns the sum of the values that are not missing, each multiplied by its area.
func Total(vals, areas []string) (string, api.Errno) {
	if len(vals) != len(areas) || slices.ContainsFunc(vals, isNoValue) {
		return "", api.ErrArg
	}
	var products []long.Rat
	for i, x := range vals {
		area, ok := longNumber(areas[i])
		if !ok {
			return "", api.ErrArg
		}
		if value, there := long.Read(x); there {
			products = append(products, value.Mul(area))
		}
	}
	return long.Total(products).Exact(), api.OK
}

// Merge returns the weights for a target grid with n coarser cells, of which part tells for each target cell to which one it belongs, or -1.
func Merge(weights []api.Weight, part []int, n int) ([]api.Weight, api.Errno) {
	isNone := func(k int) bool { return k < -1 || k >= n }
	if n < 0 || n > api.MaxGrid || slices.ContainsFunc(part, isNone) {
		return nil, api.ErrArg
	}
	areas, ok := areasOf(weights)
	if !ok {
		return nil, api.ErrArg
	}
	merged := map[pair][]long.Rat{}
	for i, w := range weights {
		if w.From < 0 || w.To < 0 || w.To >= len(part) {
			return nil, api.ErrArg
		}
		if k := part[w.To]; k >= 0 {
			key := pair{w.From, k}
			merged[key] = append(merged[key], areas[i])
		}
	}
	var list []api.Weight
	for key, l := range merged {
		list = append(list, api.Weight{From: key.from, To: key.to, Area: long.Total(l).Exact()})
	}
	slices.SortFunc(list, func(v, w api.Weight) int {
		return cmp.Or(cmp.Compare(v.To, w.To), cmp.Compare(v.From, w.From))
	})
	return list, api.OK
}
