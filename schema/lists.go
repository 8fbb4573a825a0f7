package schema

import (
	"slices"
	"strings"

	"arrayarchive/api"
)

// The lists of groups, dimensions, variables and attributes are in ascending order of the names of their items. The functions on them take the function that returns the name of an item.

func groupPath(g api.Group) string { return g.Path }

func dimName(d api.Dim) string { return d.Name }

func varName(v api.Var) string { return v.Name }

func attrName(a api.Attr) string { return a.Name }

// isList reports whether a list has at most so many items, which are valid and in ascending order, with no name twice.
func isList[T any](list []T, most int, nameOf func(T) string, valid func(T) bool) bool {
	if len(list) > most {
		return false
	}
	for i, item := range list {
		if !valid(item) || i > 0 && nameOf(list[i-1]) >= nameOf(item) {
			return false
		}
	}
	return true
}

// find returns the place that an item with a name has, or would have, and whether it is there.
func find[T any](list []T, nameOf func(T) string, name string) (int, bool) {
	return slices.BinarySearchFunc(list, name, func(item T, name string) int {
		return strings.Compare(nameOf(item), name)
	})
}

// get returns a pointer to the item with a name, or nil.
func get[T any](list []T, nameOf func(T) string, name string) *T {
	at, found := find(list, nameOf, name)
	if !found {
		return nil
	}
	return &list[at]
}

// put returns the list with an item in it, which takes the place of one with the same name; it may use the memory of the list.
func put[T any](list []T, nameOf func(T) string, item T) []T {
	at, found := find(list, nameOf, nameOf(item))
	if found {
		list[at] = item
		return list
	}
	return slices.Insert(list, at, item)
}

// drop returns the list without the item with a name; it may use the memory of the list.
func drop[T any](list []T, nameOf func(T) string, name string) []T {
	return slices.DeleteFunc(list, func(item T) bool { return nameOf(item) == name })
}

// copied returns a list of copies.
func copied[T any](list []T, copyOf func(T) T) []T {
	out := make([]T, len(list))
	for i, item := range list {
		out[i] = copyOf(item)
	}
	return out
}
