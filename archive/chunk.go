package archive

import (
	"iter"

	"arrayarchive/api"
	"arrayarchive/array"
	"arrayarchive/codec"
	"arrayarchive/quantity"
)

// source returns the bytes of a chunk by its key, and ErrKey if it is not there.
type source func(key string) ([]byte, api.Errno)

// reader reads the values of a content, whose chunks come from a source.
type reader struct {
	content
	source source
}

// kept returns values as a variable keeps them. ErrValue: it cannot.
func kept(v api.Var, vals []string) ([]string, api.Errno) {
	if len(v.Stages) > 0 && v.Stages[0].Kind == api.StageRound {
		return codec.Rounded(v.Type, vals, v.Stages[0].Step)
	}
	for _, x := range vals {
		if !quantity.Fits(v.Type, x) {
			return nil, api.ErrValue
		}
	}
	return vals, api.OK
}

// checkPipeline returns the error of a variable whose values cannot go through its stages.
func checkPipeline(v api.Var) api.Errno {
	if !codec.Valid(v.Type, v.Stages) {
		return api.ErrStage
	}
	_, errno := kept(v, []string{v.Fill})
	return errno
}

// fill returns the value of the elements of a variable that were never written.
func fill(v api.Var) string {
	vals, errno := kept(v, []string{v.Fill})
	if errno != api.OK {
		return ""
	}
	return vals[0]
}

// fillArray returns the array of a shape with the fill of a variable everywhere.
func fillArray(v api.Var, shape []int) api.Array {
	a, _ := array.Fill(shape, fill(v))
	return a
}

// chunk returns the values of a chunk. ErrKey: it is not there. ErrStore: it is damaged.
func (r reader) chunk(v variable, index []int) ([]string, api.Errno) {
	b, errno := r.source(chunkKey(v.id, index))
	if errno != api.OK {
		return nil, errno
	}
	vals, errno := codec.Decode(v.Type, v.Stages, product(v.Chunks), b)
	if errno != api.OK {
		return nil, api.ErrStore
	}
	return vals, api.OK
}

// product returns the product of the sizes of a chunk.
func product(sizes []int) int {
	p := 1
	for _, size := range sizes {
		p *= size
	}
	return p
}

// counts returns the shape of a slab.
func counts(slab []api.Cut) []int {
	shape := make([]int, len(slab))
	for k, c := range slab {
		shape[k] = c.Count
	}
	return shape
}

// whole returns the slab of all elements of a shape.
func whole(shape []int) []api.Cut {
	slab := make([]api.Cut, len(shape))
	for k, size := range shape {
		slab[k] = api.Cut{Start: 0, Count: size, Step: 1}
	}
	return slab
}

// shared returns an iterator over the elements that a slab and a chunk have in common, with the place of each one among those of the slab, and among those of the chunk.
func shared(slab []api.Cut, sizes, index []int) iter.Seq2[int, int] {
	return func(yield func(inSlab, inChunk int) bool) {
		// visit goes along dimension k, for the places that the dimensions in front of it make, and returns false at the end of the iteration.
		var visit func(k, inSlab, inChunk int) bool
		visit = func(k, inSlab, inChunk int) bool {
			if k == len(slab) {
				return yield(inSlab, inChunk)
			}
			for i := range slab[k].Count {
				at := slab[k].Start + i*slab[k].Step - index[k]*sizes[k]
				if 0 <= at && at < sizes[k] && !visit(k+1, inSlab*slab[k].Count+i, inChunk*sizes[k]+at) {
					return false
				}
			}
			return true
		}
		visit(0, 0, 0)
	}
}

// slab returns the elements of a slab of a variable.
func (r reader) slab(v variable, slab []api.Cut) (api.Array, api.Errno) {
	touched, errno := array.Touched(r.shape(v), v.Chunks, slab)
	if errno != api.OK {
		return api.Array{}, errno
	}
	a := fillArray(v.Var, counts(slab))
	for _, index := range touched {
		vals, errno := r.chunk(v, index)
		if errno == api.ErrKey {
			continue
		}
		if errno != api.OK {
			return api.Array{}, errno
		}
		for to, from := range shared(slab, v.Chunks, index) {
			a.Vals[to] = vals[from]
		}
	}
	return a, api.OK
}

// read returns the elements of a slab of the variable with a name.
func (r reader) read(path, name string, slab []api.Cut) (api.Array, api.Errno) {
	v, errno := r.find(path, name)
	if errno != api.OK {
		return api.Array{}, errno
	}
	return r.slab(v, slab)
}

// data returns all variables with their whole arrays.
func (r reader) data() ([]api.Data, api.Errno) {
	var l []api.Data
	for v := range r.variables() {
		a, errno := r.slab(v, whole(r.shape(v)))
		if errno != api.OK {
			return nil, errno
		}
		l = append(l, api.Data{Path: v.path, Name: v.Name, A: a})
	}
	return l, api.OK
}

// damaged returns the chunks that are there and damaged.
func (r reader) damaged() []api.Chunk {
	var l []api.Chunk
	for v, index := range r.possible() {
		if _, errno := r.chunk(v, index); errno == api.ErrStore {
			l = append(l, api.Chunk{Path: v.path, Name: v.Name, Index: index})
		}
	}
	return l
}
