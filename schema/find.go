package schema

import (
	"slices"

	"arrayarchive/api"
)

// Find returns a variable of a group.
func Find(s api.Schema, path, name string) (api.Var, api.Errno) {
	if !Valid(s) {
		return api.Var{}, api.ErrSchema
	}
	v := variable(s, path, name)
	if v == nil {
		return api.Var{}, api.ErrNone
	}
	return copyVar(*v), api.OK
}

// Resolve returns the dimension that a name means in a group, and the path of the group that has it.
func Resolve(s api.Schema, path, dim string) (string, api.Dim, api.Errno) {
	if !Valid(s) {
		return "", api.Dim{}, api.ErrSchema
	}
	owner, d, ok := meaning(s, path, dim)
	if !ok {
		return "", api.Dim{}, api.ErrNone
	}
	return owner, d, api.OK
}

// Shape returns the sizes of the dimensions of a variable.
func Shape(s api.Schema, path, name string) ([]int, api.Errno) {
	if !Valid(s) {
		return nil, api.ErrSchema
	}
	v := variable(s, path, name)
	if v == nil {
		return nil, api.ErrNone
	}
	shape, _ := shapeOf(s, path, v.Dims)
	return shape, api.OK
}

// Coordinate returns the path of the group that has the coordinate of the dimension that a name means in a group.
func Coordinate(s api.Schema, path, dim string) (string, api.Errno) {
	if !Valid(s) {
		return "", api.ErrSchema
	}
	owner, _, ok := meaning(s, path, dim)
	if !ok {
		return "", api.ErrNone
	}
	v := variable(s, owner, dim)
	if v == nil || len(v.Dims) != 1 || v.Dims[0] != dim {
		return "", api.ErrNone
	}
	return owner, api.OK
}

// Users returns the variables that have a dimension of a group.
func Users(s api.Schema, path, dim string) ([]api.Chunk, api.Errno) {
	if !Valid(s) {
		return nil, api.ErrSchema
	}
	g := get(s.Groups, groupPath, path)
	if g == nil || get(g.Dims, dimName, dim) == nil {
		return nil, api.ErrNone
	}
	return users(s, path, dim), api.OK
}

// users returns the variables that have a dimension of a group, in order.
func users(s api.Schema, path, dim string) []api.Chunk {
	var list []api.Chunk
	for _, g := range s.Groups {
		if owner, _, ok := meaning(s, g.Path, dim); !ok || owner != path {
			continue
		}
		for _, v := range g.Vars {
			if slices.Contains(v.Dims, dim) {
				list = append(list, api.Chunk{Path: g.Path, Name: v.Name})
			}
		}
	}
	return list
}

// variable returns a pointer to a variable of a group, or nil.
func variable(s api.Schema, path, name string) *api.Var {
	g := get(s.Groups, groupPath, path)
	if g == nil {
		return nil
	}
	return get(g.Vars, varName, name)
}

// meaning returns the dimension that a name means in a group, the path of the group that has it, and whether there is one.
func meaning(s api.Schema, path, name string) (string, api.Dim, bool) {
	for g := get(s.Groups, groupPath, path); g != nil; g = above(s, g.Path) {
		if d := get(g.Dims, dimName, name); d != nil {
			return g.Path, *d, true
		}
	}
	return "", api.Dim{}, false
}

// above returns a pointer to the parent of a group, or nil.
func above(s api.Schema, path string) *api.Group {
	parent, ok := Parent(path)
	if !ok {
		return nil
	}
	return get(s.Groups, groupPath, parent)
}

// shapeOf returns the sizes of the dimensions that names mean in a group, and whether there are at most MaxRank of them and all mean one.
func shapeOf(s api.Schema, path string, dims []string) ([]int, bool) {
	if len(dims) > api.MaxRank {
		return nil, false
	}
	shape := make([]int, len(dims))
	for i, name := range dims {
		_, d, ok := meaning(s, path, name)
		if !ok {
			return nil, false
		}
		shape[i] = d.Size
	}
	return shape, true
}

// product returns the product of at most MaxRank numbers of at most MaxSize.
func product(numbers []int) int {
	p := 1
	for _, n := range numbers {
		p *= n
	}
	return p
}
