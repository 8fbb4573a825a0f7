package calc_test

import (
	"fmt"
	"math/rand/v2"
	"slices"
	"strings"
	"testing"

	"arrayarchive/api"
	"arrayarchive/calc"
)

// grower makes random trees, most of which have no error.
type grower struct {
	r *rand.Rand
	m *model
}

func (g *grower) variable() *tree {
	d := pick(g.r, g.m.data)
	n := &tree{word: "variable", path: d.Path, name: d.Name}
	if g.r.IntN(150) == 0 {
		n.name = pick(g.r, []string{"nothing", "month", "h", "sum"})
	}
	return n
}

// name returns the name of a dimension, mostly one of the node's.
func (g *grower) name(n *tree) string {
	if g.m.infer(n) == api.OK && len(n.kind.dims) > 0 && g.r.IntN(20) > 0 {
		return pick(g.r, n.kind.dims).name
	}
	return pick(g.r, []string{"t", "x", "y", "z", "month", "year", "nothing", "longer_than_a_name_may_be"})
}

func (g *grower) integers(count int) []string {
	var l []string
	for range count {
		l = append(l, pick(g.r, []string{"0", "1", "1", "1", "2", "2", "02", "3", "00", "5", "1000000", "1000001", strings.Repeat("9", 30)}))
	}
	return l
}

// slice returns the integers of a slice of a dimension, mostly valid ones.
func (g *grower) slice(n *tree, name string) []string {
	at := n.kind.find(name)
	if at < 0 || g.r.IntN(10) == 0 {
		return g.integers(3)
	}
	c := someSlab(g.r, []int{n.kind.dims[at].size})[0]
	return []string{fmt.Sprint(c.Start), fmt.Sprint(c.Count), fmt.Sprint(c.Step)}
}

func (g *grower) leaf() *tree {
	if g.r.IntN(4) == 0 {
		if g.r.IntN(40) == 0 {
			return &tree{word: "number", text: nines + "9"}
		}
		return &tree{word: "number", text: pick(g.r, []string{"0", "1", "2", "1.50", "007", "0.25", "3", nines, nines[1:] + ".5"})}
	}
	return g.variable()
}

func (g *grower) along(word string, e *tree) *tree {
	n := &tree{word: word, parts: []*tree{e}, dim: g.name(e)}
	if word != "slice" {
		n.red = pick(g.r, []string{"sum", "mean", "min", "max", "count"})
	}
	switch word {
	case "slice":
		n.ints = g.slice(e, n.dim)
	case "window":
		n.ints = g.integers(1)
	case "group", "cycle":
		n.field = pick(g.r, []string{"year", "month", "season", "day"})
	}
	return n
}

// grow returns a tree with at most so many levels.
func (g *grower) grow(levels int) *tree {
	if levels == 1 || g.r.IntN(8) == 0 {
		return g.leaf()
	}
	words := []string{"negative", "to", "bare", "bare", "where", "+", "-", "*", "/", "+", "*", "lesser", "greater", "eq", "lt", "le", "else", "reduction", "reduction", "reduction", "window", "window", "group", "cycle", "slice", "slice"}
	word := pick(g.r, words)
	e := g.grow(levels - 1)
	switch word {
	case "negative", "bare":
		return &tree{word: word, parts: []*tree{e}}
	case "to":
		unit := pick(g.r, []string{"1", "2", "m", "cm", "degC", "K", "km", "m^2", "min", "q", ""})
		if g.m.infer(e) == api.OK && g.r.IntN(10) > 0 {
			unit = map[[7]int]string{{}: "1/3", {1}: "mm", {0, 0, 1}: "h", {0, 0, 0, 1}: "degF", {2}: "km^2"}[e.kind.unit.Powers]
		}
		return &tree{word: word, parts: []*tree{e}, text: unit}
	case "reduction", "window", "group", "cycle", "slice":
		return g.along(word, e)
	}
	n := &tree{word: word, parts: []*tree{e, g.grow(levels - 1)}}
	if word == "where" {
		n.parts = append(n.parts, g.grow(levels-1))
	}
	return n
}

// growGood returns a tree, after some trials mostly one without an error.
func (g *grower) growGood(levels int) *tree {
	n := g.grow(levels)
	for range g.r.IntN(12) {
		if g.m.infer(n) == api.OK && (g.r.IntN(3) == 0 || len(n.kind.dims) > 0) {
			break
		}
		n = g.grow(levels)
	}
	return n
}

// P7.2 and P7.8, for random texts.

func TestRandomTexts(t *testing.T) {
	r := newRandom()
	s := schemaOf(t, worldText)
	g := grower{r, newModel(s, someData(r, s))}
	for range 4000 {
		n := g.grow(r.IntN(5) + 1)
		text, want := n.noisy(r), n.format()
		if len(text) > api.MaxText {
			continue
		}
		if errno := calc.Check(text); errno != api.OK {
			t.Fatalf("Check(%q): error %d", text, errno)
		}
		if got, errno := calc.Format(text); got != want || errno != api.OK {
			t.Fatalf("Format(%q) = %q, error %d, want %q", text, got, errno, want)
		}
		if got, errno := calc.Format(want); got != want || errno != api.OK {
			t.Fatalf("Format of Format %q = %q, error %d", want, got, errno)
		}
		checkNames(t, text, n)
		checkReplace(t, r, text, n)
	}
}

func checkNames(t *testing.T, text string, n *tree) {
	t.Helper()
	var keys []string
	n.walk(func(n *tree) {
		if n.word == "variable" {
			keys = append(keys, n.path+" "+n.name)
		}
	})
	slices.Sort(keys)
	keys = slices.Compact(keys)
	got, errno := calc.Names(text)
	var gotKeys []string
	for _, c := range got {
		gotKeys = append(gotKeys, c.Path+" "+c.Name)
		if len(c.Index) > 0 {
			t.Fatalf("Names(%q): an index %v", text, c.Index)
		}
	}
	if errno != api.OK || !slices.Equal(gotKeys, keys) {
		t.Fatalf("Names(%q) = %v, error %d, want %v", text, got, errno, keys)
	}
}

func checkReplace(t *testing.T, r *rand.Rand, text string, n *tree) {
	t.Helper()
	from := api.Chunk{Path: pick(r, []string{"/", "/g", "/g/h", "/none"}), Name: pick(r, []string{"a", "b", "t", "k", "c"}), Index: []int{5}}
	to := api.Chunk{Path: pick(r, []string{"/", "/new", "/p/q/r/s"}), Name: pick(r, []string{"new", "x_1", "sum"}), Index: []int{1, 2}}
	change := func(from, to api.Chunk) {
		n.walk(func(n *tree) {
			if n.word == "variable" && n.path == from.Path && n.name == from.Name {
				n.path, n.name = to.Path, to.Name
			}
		})
	}
	format := n.format()
	change(from, to)
	want := n.format()
	got, errno := calc.Replace(text, from, to)
	if got != want || errno != api.OK {
		t.Fatalf("Replace(%q, %v, %v) = %q, error %d, want %q", text, from, to, got, errno, want)
	}
	if strings.Contains(format, "sum") && to.Name == "sum" {
		return // the new name might have been there
	}
	if back, errno := calc.Replace(got, to, from); back != format || errno != api.OK {
		t.Fatalf("Replace(%q) back = %q, error %d, want %q", got, back, errno, format)
	}
	change(to, from)
}

// P7.3 to P7.7, P7.9 to P7.11, for random expressions.

func TestRandomValues(t *testing.T) {
	r := newRandom()
	s := schemaOf(t, worldText)
	m := newModel(s, nil)
	count := map[api.Errno]int{}
	for range 2000 {
		m.data, m.whole = someData(r, s), true
		n := (&grower{r, m}).growGood(r.IntN(4) + 2)
		text := n.format()
		if r.IntN(4) == 0 {
			m.data = slices.DeleteFunc(m.data, func(d api.Data) bool { return r.IntN(12) == 0 })
		}
		r.Shuffle(len(m.data), func(i, k int) { m.data[i], m.data[k] = m.data[k], m.data[i] })
		count[checkValues(t, r, m, n, text)]++
		if t.Failed() {
			return
		}
	}
	for _, errno := range []api.Errno{api.ErrUnit, api.ErrMatch, api.ErrArg, api.ErrNone, api.ErrExpr, api.ErrDims, api.ErrTime} {
		if count[errno] == 0 {
			t.Errorf("no error %d", errno)
		}
	}
	if count[api.OK] < 800 {
		t.Errorf("only %d expressions without an error", count[api.OK])
	}
}

// checkValues compares all functions with the model, and returns the error of Value.
func checkValues(t *testing.T, r *rand.Rand, m *model, n *tree, text string) api.Errno {
	t.Helper()
	m.whole = false
	wantInfer := m.infer(n)
	want := api.Shaped{}
	if wantInfer == api.OK {
		want = api.Shaped{Dims: n.kind.names(), Sizes: n.kind.shape(), Unit: n.kind.unit}
	}
	if got, errno := calc.Infer(m.s, m.data, text); errno != wantInfer || !sameShaped(got, want) {
		t.Fatalf("Infer(%q) = %v, error %d, want %v, error %d", text, got, errno, want, wantInfer)
	}
	if wantInfer == api.OK {
		checkUsed(t, r, m, n, text)
	}
	m.whole = true
	wantErrno := m.infer(n)
	value := api.Array{}
	if wantErrno == api.OK {
		value = m.all(n, full(n.kind.shape()))
	}
	if got, errno := calc.Value(m.s, m.data, text); errno != wantErrno || !sameArray(got, value) {
		t.Fatalf("Value(%q) = %s, error %d, want %s, error %d", text, showArray(got), errno, showArray(value), wantErrno)
	}
	if wantErrno == api.OK {
		checkTile(t, r, m, n, text)
		checkRun(t, r, m, text, value)
	}
	return wantErrno
}

// checkUsed compares Used and PlanOf with the model, with no data but those of coordinates.
func checkUsed(t *testing.T, r *rand.Rand, m *model, n *tree, text string) {
	t.Helper()
	times := slices.DeleteFunc(slices.Clone(m.data), func(d api.Data) bool { return d.Name != "t" && d.Name != "z" })
	slab := someSlab(r, n.kind.shape())
	want := m.used(n, slab)
	if got, errno := calc.Used(m.s, times, text, slab); errno != api.OK || !sameChunks(got, want) {
		t.Fatalf("Used(%q, %v) = %v, error %d, want %v", text, slab, got, errno, want)
	}
	var sizes []int
	for range n.kind.dims {
		sizes = append(sizes, pick(r, []int{1, 2, 2, 3, 4, 1024}))
	}
	plan, errno := calc.PlanOf(m.s, times, text, sizes)
	if errno != api.OK {
		t.Fatalf("PlanOf(%q, %v): error %d", text, sizes, errno)
	}
	if problem := m.problem(n, sizes, plan); problem != "" {
		t.Fatalf("PlanOf(%q, %v): %s", text, sizes, problem)
	}
}

// problem returns what is wrong with a plan.
func (m *model) problem(n *tree, sizes []int, plan api.Plan) string {
	shape := n.kind.shape()
	counts := []int{}
	for k, size := range sizes {
		counts = append(counts, (shape[k]+size-1)/size)
	}
	memory := 0
	indexes := indexesOf(counts)
	if len(plan.Tiles) != len(indexes) || len(plan.Needs) != len(indexes) {
		return fmt.Sprintf("%d tiles, %d needs", len(plan.Tiles), len(plan.Needs))
	}
	for i, index := range indexes {
		tile := []api.Cut{}
		for k, size := range sizes {
			start := index[k] * size
			tile = append(tile, api.Cut{Start: start, Count: min(start+size, shape[k]) - start, Step: 1})
		}
		needs := m.used(n, tile)
		if !slices.Equal(plan.Tiles[i], tile) || !sameChunks(plan.Needs[i], needs) {
			return fmt.Sprintf("tile %d is %v with %v, not %v with %v", i, plan.Tiles[i], plan.Needs[i], tile, needs)
		}
		memory = max(memory, m.elements(needs)+product(shapeOf(tile)))
	}
	steps := 1
	n.walk(func(n *tree) {
		if n.red != "" {
			steps++
		}
	})
	if plan.Memory != memory || plan.Steps != steps {
		return fmt.Sprintf("memory %d, not %d, steps %d, not %d", plan.Memory, memory, plan.Steps, steps)
	}
	return ""
}

// checkTile compares Tile with the model, also if elements that are not used are others.
func checkTile(t *testing.T, r *rand.Rand, m *model, n *tree, text string) {
	t.Helper()
	slab := someSlab(r, n.kind.shape())
	want := m.all(n, slab)
	if got, errno := calc.Tile(m.s, m.data, text, slab); errno != api.OK || !sameArray(got, want) {
		t.Fatalf("Tile(%q, %v) = %s, error %d, want %s", text, slab, showArray(got), errno, showArray(want))
	}
	other := m.others(r, m.used(n, slab))
	if got, errno := calc.Tile(m.s, other, text, slab); errno != api.OK || !sameArray(got, want) {
		t.Fatalf("Tile(%q, %v) depends on elements that are not used: %s, error %d, want %s", text, slab, showArray(got), errno, showArray(want))
	}
}

// checkRun compares Run with the values.
func checkRun(t *testing.T, r *rand.Rand, m *model, text string, value api.Array) {
	t.Helper()
	var sizes []int
	tiles := 1
	for _, size := range value.Shape {
		sizes = append(sizes, pick(r, []int{1, 1, 2, 3, 1024}))
		tiles *= (size + sizes[len(sizes)-1] - 1) / sizes[len(sizes)-1]
	}
	order := r.Perm(tiles)
	workers := r.IntN(api.MaxWorkers) + 1
	if got, errno := calc.Run(m.s, m.data, text, sizes, order, workers); errno != api.OK || !sameArray(got, value) {
		t.Fatalf("Run(%q, %v, %v, %d) = %s, error %d, want %s", text, sizes, order, workers, showArray(got), errno, showArray(value))
	}
}
