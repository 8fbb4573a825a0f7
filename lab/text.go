package lab

import (
	"iter"
	"slices"
	"strconv"
	"strings"

	"arrayarchive/api"
	"arrayarchive/quantity"
	"arrayarchive/schema"
)

const (
	noItems = "-" // stands for a list without items
	missing = "_" // stands for a missing value
)

// items returns an iterator over the items of a list that has a sign between any two.
func items(list, sign string) iter.Seq[string] {
	return func(yield func(string) bool) {
		if list == noItems {
			return
		}
		for _, item := range strings.Split(list, sign) {
			if !yield(item) {
				return
			}
		}
	}
}

// listOf returns a list of the texts of items, with a sign between any two.
func listOf[T any](l []T, sign string, textOf func(T) string) string {
	if len(l) == 0 {
		return noItems
	}
	texts := make([]string, len(l))
	for i, item := range l {
		texts[i] = textOf(item)
	}
	return strings.Join(texts, sign)
}

func valueText(x string) string {
	if !quantity.Valid(x) {
		return missing
	}
	return x
}

func nameText(name string) string {
	return name
}

func placeText(c api.Chunk) string {
	return c.Path + ":" + c.Name
}

func arrayText(a api.Array) string {
	return listOf(a.Shape, "x", strconv.Itoa) + " " + FormatValues(a.Vals)
}

// FormatValues returns the text of values.
func FormatValues(l []string) string {
	return listOf(l, ",", valueText)
}

// ReadValues returns the values of a text.
func ReadValues(s string) ([]string, api.Errno) {
	var l []string
	for item := range items(s, ",") {
		x := ""
		if item != missing {
			number, errno := quantity.Parse(item)
			if errno != api.OK {
				return nil, api.ErrSyntax
			}
			x = number
		}
		l = append(l, x)
	}
	return l, api.OK
}

// varWord is the word with which the line of a variable begins.
const varWord = "var "

// Line returns the path and the line of a variable.
func Line(path string, v api.Var) string {
	v.Attrs = nil
	g := api.Group{Path: "/", Vars: []api.Var{v}}
	for _, name := range slices.Sorted(slices.Values(v.Dims)) {
		g.Dims = append(g.Dims, api.Dim{Name: name})
	}
	text, errno := schema.Print(api.Schema{Groups: []api.Group{g}})
	if errno != api.OK {
		return ""
	}
	// The line of the variable is the last one, and no other one has this word.
	_, line, _ := strings.Cut(strings.TrimSuffix(text, "\n"), "\n"+varWord)
	return path + " " + line
}

// parseVar returns the variable of a line, which is what stands behind the path in its Line.
func parseVar(line string) (api.Var, api.Errno) {
	text := "group /\n"
	for _, name := range dimsOf(line) {
		text += "dim " + name + " 0\n"
	}
	s, errno := schema.Parse(text + varWord + line + "\n")
	if errno != api.OK {
		return api.Var{}, api.ErrSyntax
	}
	v := s.Groups[0].Vars[0]
	// A line feed in the line may have made more of it than a variable.
	if Line("/", v) != "/ "+line {
		return api.Var{}, api.ErrSyntax
	}
	return v, api.OK
}

// dimsOf returns the names of the dimensions in the line of a variable, in ascending order, each once.
func dimsOf(line string) []string {
	_, behind, _ := strings.Cut(line, " ( ")
	inside, _, _ := strings.Cut(behind, ")")
	names := strings.Fields(inside)
	slices.Sort(names)
	return slices.Compact(names)
}
