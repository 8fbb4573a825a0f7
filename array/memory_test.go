package array_test

import (
	"fmt"
	"slices"
	"testing"

	"arrayarchive/api"
	"arrayarchive/array"
)

// arguments are what the functions take: each list has memory behind its end, which must not be used.
type arguments struct {
	a, b, part         api.Array
	slab               []api.Cut
	shape, larger      []int
	axes, sizes, index []int
	groups             [][]int
	list               []string
}

func padded[T any](l []T, more T) []T {
	return append(slices.Clone(l), more, more, more)[:len(l)]
}

func paddedArray(a api.Array) api.Array {
	return api.Array{Shape: padded(a.Shape, 77), Vals: padded(a.Vals, "77")}
}

func newArguments() *arguments {
	return &arguments{
		a: paddedArray(six()), b: paddedArray(of([]int{2, 3}, "_ 2 _ 4 _ 6")), part: paddedArray(six()),
		slab:  padded([]api.Cut{{Count: 2, Step: 1}, {Count: 3, Step: 1}}, api.Cut{Start: 77}),
		shape: padded([]int{2, 3}, 77), larger: padded([]int{2, 4}, 77), axes: padded([]int{0, 1}, 77), sizes: padded([]int{1, 2}, 77), index: padded([]int{1, 1}, 77),
		groups: padded([][]int{padded([]int{0}, 77), padded([]int{1}, 77), padded([]int{2}, 77)}, []int{77}),
		list:   padded([]string{"1", "", "2"}, "77"),
	}
}

// text returns everything that the arguments have, with the memory behind their ends.
func (in *arguments) text() string {
	var groups [][]int
	for _, g := range in.groups[:cap(in.groups)] {
		groups = append(groups, g[:cap(g)])
	}
	ints := [][]int{in.shape, in.larger, in.axes, in.sizes, in.index, in.a.Shape, in.b.Shape, in.part.Shape}
	lists := [][]string{in.list, in.a.Vals, in.b.Vals, in.part.Vals}
	s := fmt.Sprint(groups, in.slab[:cap(in.slab)])
	for _, l := range ints {
		s += fmt.Sprint(l[:cap(l)])
	}
	for _, l := range lists {
		s += fmt.Sprintf("%q", l[:cap(l)])
	}
	return s
}

// spoil changes all lists.
func (in *arguments) spoil() {
	for _, l := range slices.Concat([][]int{in.shape, in.larger, in.axes, in.sizes, in.index, in.a.Shape, in.b.Shape, in.part.Shape}, in.groups) {
		spoilAll(l, 99)
	}
	for _, l := range [][]string{in.list, in.a.Vals, in.b.Vals, in.part.Vals} {
		spoilAll(l, "99")
	}
	spoilAll(in.slab, api.Cut{Start: 99})
	spoilAll(in.groups, nil)
}

func spoilAll[T any](l []T, x T) {
	for i := range l {
		l[i] = x
	}
}

// result is what a function returns, as lists.
type result struct {
	ints  [][]int
	texts []string
	cuts  []api.Cut
	errno api.Errno
}

func (r result) text() string {
	return fmt.Sprintf("%v %q %v %d", r.ints, r.texts, r.cuts, r.errno)
}

func ofArray(a api.Array, errno api.Errno) result {
	return result{ints: [][]int{a.Shape}, texts: a.Vals, errno: errno}
}

func ofIndexes(l [][]int, errno api.Errno) result {
	return result{ints: l, errno: errno}
}

func ofText(x string, errno api.Errno) result {
	return result{texts: []string{x}, errno: errno}
}

func ofCuts(l []api.Cut, errno api.Errno) result {
	return result{cuts: l, errno: errno}
}

// calls returns calls of all functions, among them those whose results are equal to an argument.
func calls() map[string]func(in *arguments) result {
	return map[string]func(in *arguments) result{
		"Fill":           func(in *arguments) result { return ofArray(array.Fill(in.shape, "5")) },
		"At":             func(in *arguments) result { return ofText(array.At(in.a, in.index)) },
		"Slice":          func(in *arguments) result { return ofArray(array.Slice(in.a, in.slab)) },
		"Paste":          func(in *arguments) result { return ofArray(array.Paste(in.a, in.slab, in.part)) },
		"Resize":         func(in *arguments) result { return ofArray(array.Resize(in.a, in.shape, "5")) },
		"Resize to more": func(in *arguments) result { return ofArray(array.Resize(in.a, in.larger, "5")) },
		"Chunks":         func(in *arguments) result { return ofIndexes(array.Chunks(in.shape, in.sizes)) },
		"Box":            func(in *arguments) result { return ofCuts(array.Box(in.shape, in.sizes, in.index)) },
		"Touched":        func(in *arguments) result { return ofIndexes(array.Touched(in.shape, in.sizes, in.slab)) },
		"Each":           func(in *arguments) result { return ofArray(array.Each(in.a, in.b, 10)) },
		"Each sum":       func(in *arguments) result { return ofArray(array.Each(in.a, in.b, 1)) },
		"Spread":         func(in *arguments) result { return ofArray(array.Spread(in.a, in.axes, in.shape)) },
		"Move":           func(in *arguments) result { return ofArray(array.Move(in.a, in.axes)) },
		"Reduced":        func(in *arguments) result { return ofText(array.Reduced(in.list, api.RedMean)) },
		"Reduce":         func(in *arguments) result { return ofArray(array.Reduce(in.a, 0, api.RedSum)) },
		"Reduce last":    func(in *arguments) result { return ofArray(array.Reduce(in.b, 1, api.RedMin)) },
		"Window":         func(in *arguments) result { return ofArray(array.Window(in.a, 1, api.RedMax, 1)) },
		"Group":          func(in *arguments) result { return ofArray(array.Group(in.a, 1, api.RedMax, in.groups)) },
	}
}

// R4: arguments are neither changed nor kept, results are new memory, and no two lists of one share any.
func TestMemory(t *testing.T) {
	for name, call := range calls() {
		in := newArguments()
		before := in.text()
		got := call(in)
		text := got.text()
		if got.errno != api.OK {
			t.Fatalf("%s: error %d", name, got.errno)
		}
		if in.text() != before {
			t.Errorf("%s changes an argument", name)
		}
		in.spoil()
		if got.text() != text {
			t.Errorf("the result of %s shares memory with an argument", name)
		}
		in = newArguments()
		got = call(in)
		for _, l := range got.ints {
			spoilAll(l, 88)
		}
		spoilAll(got.texts, "88")
		spoilAll(got.cuts, api.Cut{})
		if in.text() != before {
			t.Errorf("a change of the result of %s changes an argument", name)
		}
		if again := call(in); again.text() != text {
			t.Errorf("%s gives another result behind a change of the first one", name)
		}
		for i, l := range got.ints {
			spoilAll(l, i)
		}
		for i, l := range got.ints {
			for _, x := range l {
				if x != i {
					t.Errorf("two lists of the result of %s share memory", name)
				}
			}
		}
	}
}

// R5 and LANGUAGE.md's rule on state: equal calls give equal results, whatever was called in between.
func TestCallsInAnyOrder(t *testing.T) {
	first := map[string]string{}
	for range 20 { // a map is ranged over in another order each time
		for name, call := range calls() {
			text := call(newArguments()).text()
			if first[name] == "" {
				first[name] = text
			}
			if first[name] != text {
				t.Errorf("%s gives %s, and before it gave %s", name, text, first[name])
			}
		}
	}
}
