package calc

import (
	"cmp"
	"slices"
	"sync"

	"arrayarchive/api"
	"arrayarchive/array"
)

// use visits the variables of an expression with the regions of them that are used by a region of it.
func use(n typed, chosen region, visit func(v *typedVariable, chosen region)) {
	if chosen.count() == 0 {
		return
	}
	if v, ok := n.(*typedVariable); ok {
		visit(v, chosen)
	}
	for i, part := range n.reach(chosen) {
		use(n.info().below[i], part, visit)
	}
}

// met returns the chunks of a variable that have an element of a region.
func (n *typedVariable) met(chosen region) []api.Chunk {
	numbers := make(region, len(chosen))
	for k, positions := range chosen {
		for _, position := range positions {
			numbers[k] = append(numbers[k], position/n.chunks[k])
		}
		numbers[k] = slices.Compact(numbers[k])
	}
	var list []api.Chunk
	for _, index := range numbers.indexes() {
		list = append(list, api.Chunk{Path: n.path, Name: n.name, Index: index})
	}
	return list
}

// cells returns the number of the elements of a chunk.
func (n *typedVariable) cells(index []int) int {
	product := 1
	for _, c := range checked(array.Box(n.shape(), n.chunks, index)) {
		product *= c.Count
	}
	return product
}

func compareChunks(a, b api.Chunk) int {
	return cmp.Or(cmp.Compare(a.Path, b.Path), cmp.Compare(a.Name, b.Name), slices.Compare(a.Index, b.Index))
}

// inOrder returns chunks in ascending order, each once.
func inOrder(list []api.Chunk) []api.Chunk {
	slices.SortFunc(list, compareChunks)
	return slices.CompactFunc(list, func(a, b api.Chunk) bool { return compareChunks(a, b) == 0 })
}

// need returns the chunks that are used by a region of an expression, and the number of their elements.
func need(n typed, chosen region) ([]api.Chunk, int) {
	var list []api.Chunk
	variables := map[variable]*typedVariable{}
	use(n, chosen, func(v *typedVariable, chosen region) {
		list = append(list, v.met(chosen)...)
		variables[*v.variable] = v
	})
	list = inOrder(list)
	cells := 0
	for _, c := range list {
		cells += variables[variable{c.Path, c.Name}].cells(c.Index)
	}
	return list, cells
}

// tilesOf returns the slabs of the tiles of a shape, or panics if the sizes are none for it.
func tilesOf(shape, sizes []int) [][]api.Cut {
	var tiles [][]api.Cut
	for _, index := range checked(array.Chunks(shape, sizes)) {
		tiles = append(tiles, checked(array.Box(shape, sizes, index)))
	}
	return tiles
}

// planOf returns the plan for tiles with some sizes, but for its steps.
func planOf(n typed, sizes []int) api.Plan {
	var plan api.Plan
	shape := n.info().shape()
	plan.Tiles = tilesOf(shape, sizes)
	for _, tile := range plan.Tiles {
		chosen := regionOf(shape, tile)
		needs, cells := need(n, chosen)
		plan.Needs = append(plan.Needs, needs)
		plan.Memory = max(plan.Memory, cells+chosen.count())
	}
	return plan
}

// run computes an expression by tiles in an order.
func run(n typed, sizes, order []int, workers int) api.Array {
	shape := n.info().shape()
	var tiles []region
	for _, tile := range tilesOf(shape, sizes) {
		tiles = append(tiles, regionOf(shape, tile))
	}
	if workers < 1 || workers > api.MaxWorkers || !isOrder(order, len(tiles)) {
		panic(api.ErrArg)
	}
	return joined(shape, tiles, work(n, tiles, order, workers))
}

// isOrder reports whether a list has the numbers from 0 to less than count, each once.
func isOrder(list []int, count int) bool {
	return slices.Equal(slices.Sorted(slices.Values(list)), span(0, count))
}

// work returns the values of regions, which workers compute in an order.
func work(n typed, regions []region, order []int, workers int) []api.Array {
	values := make([]api.Array, len(regions))
	numbers := make(chan int)
	var all sync.WaitGroup
	for range workers {
		all.Go(func() {
			for number := range numbers {
				values[number] = evaluate(n, regions[number])
			}
		})
	}
	for _, number := range order {
		numbers <- number
	}
	close(numbers)
	all.Wait()
	return values
}

// joined returns the array of a shape whose regions have these values.
func joined(shape []int, regions []region, values []api.Array) api.Array {
	out := checked(array.Fill(shape, ""))
	for i, r := range regions {
		for k, index := range r.indexes() {
			out.Vals[placeOf(shape, index)] = values[i].Vals[k]
		}
	}
	return out
}
