package calc_test

import (
	"fmt"
	"slices"
	"testing"

	"arrayarchive/api"
	"arrayarchive/calc"
)

// arguments are what the functions take: each list has memory behind its end, which must not be used.
type arguments struct {
	s            api.Schema
	data         []api.Data
	slab         []api.Cut
	sizes, order []int
	from, to     api.Chunk
}

func padded[T any](l []T, more T) []T {
	return append(slices.Clone(l), more, more, more)[:len(l)]
}

func newArguments(t *testing.T) *arguments {
	t.Helper()
	s, data := fixed(t)
	in := &arguments{s: s, data: padded(data, api.Data{Path: "/", Name: "a"})}
	for i := range in.data {
		a := &in.data[i].A
		a.Shape, a.Vals = padded(a.Shape, 77), padded(a.Vals, "77")
	}
	for g := range s.Groups {
		group := &s.Groups[g]
		group.Dims, group.Vars = padded(group.Dims, api.Dim{Name: "zz"}), padded(group.Vars, api.Var{Name: "zz"})
		for v := range group.Vars {
			x := &group.Vars[v]
			x.Dims, x.Chunks, x.Attrs = padded(x.Dims, "zz"), padded(x.Chunks, 77), padded(x.Attrs, api.Attr{Name: "calendar"})
		}
	}
	in.s.Groups = padded(s.Groups, api.Group{Path: "/zz"})
	in.slab = padded(cutsOf(t, "0:2:2 0:3:1"), api.Cut{Start: 77})
	in.sizes, in.order = padded([]int{2, 3}, 77), padded([]int{2, 0, 1}, 77)
	in.from, in.to = api.Chunk{Path: "/", Name: "a", Index: padded([]int{1}, 77)}, api.Chunk{Path: "/", Name: "b", Index: padded([]int{2}, 77)}
	return in
}

// text returns everything that the arguments have, with the memory behind their ends.
func (in *arguments) text() string {
	s := fmt.Sprint(in.slab[:cap(in.slab)], in.sizes[:cap(in.sizes)], in.order[:cap(in.order)], in.from.Index[:cap(in.from.Index)], in.to.Index[:cap(in.to.Index)])
	for _, d := range in.data[:cap(in.data)] {
		s += fmt.Sprintf("%s %s %v %q", d.Path, d.Name, d.A.Shape[:cap(d.A.Shape)], d.A.Vals[:cap(d.A.Vals)])
	}
	for _, g := range in.s.Groups[:cap(in.s.Groups)] {
		s += g.Path + fmt.Sprint(g.Dims[:cap(g.Dims)])
		for _, v := range g.Vars[:cap(g.Vars)] {
			s += fmt.Sprint(v, v.Dims[:cap(v.Dims)], v.Chunks[:cap(v.Chunks)], v.Attrs[:cap(v.Attrs)])
		}
	}
	return s
}

// spoil changes all lists.
func (in *arguments) spoil() {
	for _, l := range [][]int{in.sizes, in.order, in.from.Index, in.to.Index} {
		for i := range l {
			l[i] = 99
		}
	}
	for i := range in.slab {
		in.slab[i] = api.Cut{Start: 99}
	}
	for _, d := range in.data {
		for i := range d.A.Shape {
			d.A.Shape[i] = 99
		}
		for i := range d.A.Vals {
			d.A.Vals[i] = "99"
		}
	}
	for _, g := range in.s.Groups {
		for _, v := range g.Vars {
			for k := range v.Dims {
				v.Dims[k], v.Chunks[k] = "spoilt", 99
			}
		}
		for i := range g.Dims {
			g.Dims[i] = api.Dim{Name: "spoilt"}
		}
	}
}

// calls are calls of all functions; each one returns the lists of its result.
func calls(text string) map[string]func(in *arguments) (any, api.Errno) {
	return map[string]func(in *arguments) (any, api.Errno){
		"Names":   func(in *arguments) (any, api.Errno) { l, errno := calc.Names(text); return l, errno },
		"Replace": func(in *arguments) (any, api.Errno) { l, errno := calc.Replace(text, in.from, in.to); return l, errno },
		"Infer":   func(in *arguments) (any, api.Errno) { x, errno := calc.Infer(in.s, in.data, text); return x, errno },
		"Value":   func(in *arguments) (any, api.Errno) { a, errno := calc.Value(in.s, in.data, text); return a, errno },
		"Tile": func(in *arguments) (any, api.Errno) {
			a, errno := calc.Tile(in.s, in.data, text, in.slab)
			return a, errno
		},
		"Used": func(in *arguments) (any, api.Errno) {
			l, errno := calc.Used(in.s, in.data, text, in.slab)
			return l, errno
		},
		"PlanOf": func(in *arguments) (any, api.Errno) {
			p, errno := calc.PlanOf(in.s, in.data, text, in.sizes)
			return p, errno
		},
		"Run": func(in *arguments) (any, api.Errno) {
			a, errno := calc.Run(in.s, in.data, text, in.sizes, in.order, 3)
			return a, errno
		},
	}
}

// spoilResult changes all lists of a result.
func spoilResult(out any) {
	fill := func(lists ...[]int) {
		for _, l := range lists {
			l = l[:cap(l)]
			for i := range l {
				l[i] = -5
			}
		}
	}
	names := func(l []string) {
		l = l[:cap(l)]
		for i := range l {
			l[i] = "spoilt"
		}
	}
	switch x := out.(type) {
	case api.Array:
		fill(x.Shape)
		names(x.Vals)
	case api.Shaped:
		fill(x.Sizes)
		names(x.Dims)
	case []api.Chunk:
		for i := range x {
			fill(x[i].Index)
			x[i] = api.Chunk{Path: "spoilt"}
		}
	case api.Plan:
		for i := range x.Tiles {
			clear(x.Tiles[i][:cap(x.Tiles[i])])
			spoilResult(x.Needs[i])
		}
	}
}

// R4

func TestMemory(t *testing.T) {
	for _, text := range []string{"/a", "bare(/a)", "-/a", "to(/a, \"2\")", "/a + /a", "/a + 1", "where(1, /a, /b)", "slice(/a, x, 0, 3, 1)", "window(sum, /a, t, 2)", "/a + max(cycle(max, /v, t, month), month)", "sum(/a * /g/k / /g/k, y)"} {
		for name, call := range calls(text) {
			in := newArguments(t)
			before := in.text()
			first, errno := call(in)
			if errno != api.OK {
				t.Fatalf("%s(%s): error %d", name, text, errno)
			}
			if in.text() != before {
				t.Errorf("%s(%s) changes an argument", name, text)
			}
			kept := fmt.Sprint(first)
			second, _ := call(in)
			in.spoil()
			if fmt.Sprint(first) != kept {
				t.Errorf("%s(%s) shares memory with an argument", name, text)
			}
			spoilResult(first)
			if fmt.Sprint(second) != kept {
				t.Errorf("%s(%s) returns the same memory twice", name, text)
			}
			in = newArguments(t)
			third, _ := call(in)
			spoilResult(third)
			if in.text() != before {
				t.Errorf("%s(%s) returns memory of an argument", name, text)
			}
		}
	}
}

// TestSeparate: no two lists of a result share memory.
func TestSeparate(t *testing.T) {
	in := newArguments(t)
	plan, errno := calc.PlanOf(in.s, in.data, "sum(/a, t) + /b + /v", []int{1, 1})
	if errno != api.OK {
		t.Fatalf("error %d", errno)
	}
	again, _ := calc.PlanOf(in.s, in.data, "sum(/a, t) + /b + /v", []int{1, 1})
	for i := range plan.Tiles {
		for k, c := range plan.Needs[i] {
			for n := range c.Index[:cap(c.Index)] {
				c.Index[:cap(c.Index)][n] = -1
			}
			if k+1 < len(plan.Needs[i]) && !sameChunks(plan.Needs[i][k+1:], again.Needs[i][k+1:]) {
				t.Fatalf("the chunks of tile %d share memory", i)
			}
		}
		clear(plan.Tiles[i][:cap(plan.Tiles[i])])
		for k := i + 1; k < len(plan.Tiles); k++ {
			if !slices.Equal(plan.Tiles[k], again.Tiles[k]) || !sameChunks(plan.Needs[k], again.Needs[k]) {
				t.Fatalf("the tiles %d and %d share memory", i, k)
			}
		}
	}
}

// An empty list and a nil list are the same.

func TestEmptyLists(t *testing.T) {
	s, _ := fixed(t)
	data := []api.Data{{Path: "/", Name: "c", A: api.Array{Shape: []int{}, Vals: []string{"5"}}}, {Path: "/", Name: "z", A: api.Array{Shape: []int{0}, Vals: []string{}}}}
	for _, slab := range [][]api.Cut{nil, {}} {
		if a, errno := calc.Tile(s, data, "/c", slab); errno != api.OK || !sameArray(a, of(nil, "5")) {
			t.Errorf("Tile: %s, error %d", showArray(a), errno)
		}
	}
	for _, sizes := range [][]int{nil, {}} {
		if a, errno := calc.Run(s, data, "/c", sizes, []int{0}, 1); errno != api.OK || !sameArray(a, of(nil, "5")) {
			t.Errorf("Run: %s, error %d", showArray(a), errno)
		}
		if a, errno := calc.Run(s, data, "/z", []int{1}, sizes, 1); errno != api.OK || !sameArray(a, of([]int{0}, "")) {
			t.Errorf("Run: %s, error %d", showArray(a), errno)
		}
	}
	if _, errno := calc.Infer(s, []api.Data{}, "/c"); errno != api.OK {
		t.Errorf("Infer: error %d", errno)
	}
}
