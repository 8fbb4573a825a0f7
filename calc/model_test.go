package calc_test

import (
	"fmt"
	"maps"
	"math/rand/v2"
	"slices"
	"strings"

	"arrayarchive/api"
	"arrayarchive/array"
	"arrayarchive/calendar"
	"arrayarchive/quantity"
	"arrayarchive/schema"
)

// tree is a node of an expression. The model of the chapter below goes through it element by element.
type tree struct {
	word            string // number, variable, negative, a sign, or the word of a call (reduction for sum and the like)
	parts           []*tree
	path, name      string
	text            string // of a number or a unit
	dim, red, field string
	ints            []string
	kind            kind // filled in by the model
	groups          [][]int
}

// kind is what the model knows of the result of a node.
type kind struct {
	dims []dim
	unit api.Unit
}

type dim struct {
	name  string
	size  int
	group string // of the origin, or empty
	at    []int  // positions of the origin
}

func (k kind) find(name string) int {
	return slices.IndexFunc(k.dims, func(d dim) bool { return d.name == name })
}

func (k kind) shape() []int {
	shape := []int{}
	for _, d := range k.dims {
		shape = append(shape, d.size)
	}
	return shape
}

func (k kind) names() []string {
	names := []string{}
	for _, d := range k.dims {
		names = append(names, d.name)
	}
	return names
}

func (n *tree) isSign() bool {
	return slices.Contains([]string{"+", "-", "*", "/"}, n.word)
}

// strength returns how tightly a node holds its operands together.
func (n *tree) strength() int {
	return map[string]int{"+": -3, "-": -3, "*": -2, "/": -2, "negative": -1}[n.word]
}

// print returns the text of a node: f makes the texts of tokens, wrap puts what is in need of parentheses, or might have them, into these.
func (n *tree) print(gap func(string) string, wrap func(text string, needed bool) string) string {
	part := func(i, least int) string {
		p := n.parts[i]
		return wrap(p.print(gap, wrap), p.strength() < least)
	}
	switch {
	case n.word == "number":
		return n.text
	case n.word == "variable":
		return strings.TrimSuffix(n.path, "/") + "/" + n.name
	case n.word == "negative":
		return "-" + part(0, -1)
	case n.isSign():
		return part(0, n.strength()) + gap(" "+n.word+" ") + part(1, n.strength()+1)
	}
	var arguments []string
	if n.word == "window" || n.word == "group" || n.word == "cycle" {
		arguments = append(arguments, n.red)
	}
	for i := range n.parts {
		arguments = append(arguments, part(i, -9))
	}
	if n.dim != "" {
		arguments = append(arguments, n.dim)
	}
	arguments = append(arguments, n.ints...)
	if n.field != "" {
		arguments = append(arguments, n.field)
	}
	if n.word == "to" {
		arguments = append(arguments, `"`+n.text+`"`)
	}
	word := n.word
	if word == "reduction" {
		word = n.red
	}
	return word + gap("(") + strings.Join(arguments, gap(", ")) + gap(")")
}

// format returns the text as Format should.
func (n *tree) format() string {
	return n.print(func(s string) string { return s }, func(text string, needed bool) string {
		if needed {
			return "(" + text + ")"
		}
		return text
	})
}

// noisy returns a text of the same tree with other spaces and more parentheses.
func (n *tree) noisy(r *rand.Rand) string {
	gap := func(s string) string {
		before, behind := r.IntN(3), r.IntN(3)
		if s == " / " && before == 0 {
			behind++ // a variable and a word behind it would be another variable
		}
		return strings.Repeat(" ", before) + strings.TrimSpace(s) + strings.Repeat(" ", behind)
	}
	return gap(n.print(gap, func(text string, needed bool) string {
		for needed || r.IntN(4) == 0 {
			text = gap("(") + text + gap(")")
			needed = false
		}
		return text
	}))
}

func (n *tree) walk(visit func(*tree)) {
	visit(n)
	for _, p := range n.parts {
		p.walk(visit)
	}
}

func (n *tree) levels() int {
	deepest := 0
	for _, p := range n.parts {
		deepest = max(deepest, p.levels())
	}
	return deepest + 1
}

// model computes expressions over a schema and data as the chapter defines them.
type model struct {
	s     api.Schema
	vars  map[string]described // by path, space and name
	data  []api.Data
	whole bool                                 // Value, Tile and Run need all data
	touch func(path, name string, index []int) // is called for each element of a variable that is used
}

// described is a variable with its kind.
type described struct {
	api.Var
	kind
}

func newModel(s api.Schema, data []api.Data) *model {
	m := &model{s: s, vars: map[string]described{}, data: data}
	for _, g := range s.Groups {
		for _, v := range g.Vars {
			d := described{v, kind{nil, bareUnit}}
			if v.Unit != "" {
				d.unit, _ = quantity.ParseUnit(v.Unit)
			}
			for _, name := range v.Dims {
				group, found, _ := schema.Resolve(s, g.Path, name)
				d.dims = append(d.dims, dim{name, found.Size, group, upTo(found.Size)})
			}
			m.vars[g.Path+" "+v.Name] = d
		}
	}
	return m
}

func (m *model) find(path, name string) (api.Array, bool) {
	for _, d := range m.data {
		if d.Path == path && d.Name == name {
			return d.A, true
		}
	}
	return api.Array{}, false
}

var bareUnit = api.Unit{Factor: "1", Offset: "0"}

// infer fills in the kinds of a node and of those that belong to it.
func (m *model) infer(n *tree) api.Errno {
	for _, p := range n.parts {
		if errno := m.infer(p); errno != api.OK {
			return errno
		}
	}
	errno := m.own(n)
	if errno == api.OK && !array.ValidShape(n.kind.shape()) {
		return api.ErrDims
	}
	return errno
}

func (m *model) own(n *tree) api.Errno {
	if len(n.parts) > 0 {
		n.kind = kind{slices.Clone(n.parts[0].kind.dims), n.parts[0].kind.unit}
	}
	switch n.word {
	case "number":
		n.kind = kind{nil, bareUnit}
		if _, errno := quantity.Parse(n.text); errno != api.OK {
			return api.ErrExpr
		}
	case "variable":
		return m.ownVariable(n)
	case "negative":
		if n.kind.unit.Offset != "0" {
			return api.ErrUnit
		}
	case "to":
		u, errno := quantity.ParseUnit(n.text)
		if errno != api.OK {
			return errno
		}
		if u.Powers != n.kind.unit.Powers {
			return api.ErrMatch
		}
		n.kind.unit = u
	case "bare":
		n.kind.unit = bareUnit
	case "reduction", "window", "group", "cycle", "slice":
		return m.ownAlong(n)
	default:
		return m.ownElements(n)
	}
	return api.OK
}

func (m *model) ownVariable(n *tree) api.Errno {
	v, is := m.vars[n.path+" "+n.name]
	if _, there := m.find(n.path, n.name); !is || m.whole && !there {
		return api.ErrNone
	}
	n.kind = v.kind
	return api.OK
}

func upTo(n int) []int {
	var l []int
	for i := range n {
		l = append(l, i)
	}
	return l
}

// ownElements is about operations on the elements of several expressions.
func (m *model) ownElements(n *tree) api.Errno {
	for _, p := range n.parts[1:] {
		for _, d := range p.kind.dims {
			at := n.kind.find(d.name)
			if at < 0 {
				n.kind.dims = append(n.kind.dims, d)
			} else if n.kind.dims[at].size != d.size {
				return api.ErrDims
			}
		}
		if !array.ValidShape(n.kind.shape()) {
			return api.ErrDims
		}
	}
	last := len(n.parts) - 1
	a, b := n.parts[last-1].kind.unit, n.parts[last].kind.unit
	n.kind.unit = a
	var errno api.Errno
	switch n.word {
	case "*":
		n.kind.unit, errno = quantity.Times(a, b)
	case "/":
		n.kind.unit, errno = quantity.Over(a, b)
	default:
		if a.Powers != b.Powers {
			return api.ErrMatch
		}
		if n.isSign() && (a.Offset != "0" || b.Offset != "0") {
			return api.ErrUnit
		}
	}
	if n.word == "eq" || n.word == "lt" || n.word == "le" {
		n.kind.unit = bareUnit
	}
	return errno
}

func small(digits string) int {
	digits = strings.TrimLeft(digits, "0")
	if len(digits) > 7 {
		return 1000000
	}
	n := 0
	fmt.Sscan("0"+digits, &n)
	return min(n, 1000000)
}

func (m *model) ownAlong(n *tree) api.Errno {
	axis := n.kind.find(n.dim)
	if axis < 0 {
		return api.ErrDims
	}
	d := n.kind.dims[axis]
	if n.red == "sum" && n.kind.unit.Offset != "0" {
		return api.ErrUnit
	}
	if n.red == "count" {
		n.kind.unit = bareUnit
	}
	switch n.word {
	case "reduction":
		n.kind.dims = slices.Delete(n.kind.dims, axis, axis+1)
	case "window":
		if small(n.ints[0]) == 0 {
			return api.ErrArg
		}
	case "slice":
		start, count, step := small(n.ints[0]), small(n.ints[1]), small(n.ints[2])
		if step == 0 || start > d.size || count > 0 && start+(count-1)*step >= d.size {
			return api.ErrArg
		}
		at := []int{}
		for i := range count {
			if d.group != "" {
				at = append(at, d.at[start+i*step])
			}
		}
		n.kind.dims[axis].size, n.kind.dims[axis].at = count, at
	default:
		groups, ok := m.groups(n, d)
		if !ok {
			return api.ErrTime
		}
		if other := n.kind.find(n.field); other >= 0 && other != axis {
			return api.ErrDims
		}
		n.groups = groups
		n.kind.dims[axis] = dim{name: n.field, size: len(groups)}
	}
	return api.OK
}

func (m *model) groups(n *tree, d dim) ([][]int, bool) {
	if d.group == "" {
		return nil, false
	}
	path, errno := schema.Coordinate(m.s, d.group, d.name)
	if errno != api.OK {
		return nil, false
	}
	v := m.vars[path+" "+d.name]
	a, there := m.find(path, d.name)
	if v.Type == api.TypeNum || !there {
		return nil, false
	}
	cal := 0
	for _, attr := range v.Attrs {
		if attr.Name == "calendar" && attr.Kind == api.AttrText {
			cal, _ = calendar.Find(attr.Text)
		}
	}
	var numbers []int
	for _, at := range d.at {
		number, ok := quantity.Int(a.Vals[at])
		if !ok {
			return nil, false
		}
		numbers = append(numbers, number)
	}
	field := slices.Index([]string{"", "year", "month", "season", "day"}, n.field)
	_, groups, errno := calendar.Groups(cal, numbers, field, n.word == "cycle")
	return groups, errno == api.OK
}

// with returns positions with another one of a dimension.
func with(pos map[string]int, name string, position int) map[string]int {
	out := maps.Clone(pos)
	out[name] = position
	return out
}

// at returns the element of a node at the positions of its dimensions by name (there may be more of them).
func (m *model) at(n *tree, pos map[string]int) string {
	switch n.word {
	case "number":
		x, _ := quantity.Parse(n.text)
		return x
	case "variable":
		return m.element(n, pos)
	case "negative":
		return quantity.Sub("0", m.at(n.parts[0], pos))
	case "to":
		return inUnit(m.at(n.parts[0], pos), n.parts[0].kind.unit, n.kind.unit)
	case "bare":
		return m.at(n.parts[0], pos)
	case "where":
		test, a, b := m.at(n.parts[0], pos), m.at(n.parts[1], pos), m.at(n.parts[2], pos)
		switch test {
		case "":
			return ""
		case "0":
			return inUnit(b, n.parts[2].kind.unit, n.parts[1].kind.unit)
		}
		return a
	case "reduction", "window", "group", "cycle", "slice":
		return m.alongAt(n, pos)
	}
	return m.pairAt(n, pos)
}

func (m *model) element(n *tree, pos map[string]int) string {
	index, place := []int{}, 0
	for _, d := range n.kind.dims {
		index = append(index, pos[d.name])
		place = place*d.size + pos[d.name]
	}
	if m.touch != nil {
		m.touch(n.path, n.name, index)
	}
	a, there := m.find(n.path, n.name)
	if !there {
		return ""
	}
	return a.Vals[place]
}

func inUnit(x string, from, to api.Unit) string {
	if from == to {
		return x
	}
	y, _ := quantity.Convert(x, from, to)
	return y
}

func (m *model) pairAt(n *tree, pos map[string]int) string {
	a, b := m.at(n.parts[0], pos), m.at(n.parts[1], pos)
	if n.word != "*" && n.word != "/" {
		b = inUnit(b, n.parts[1].kind.unit, n.parts[0].kind.unit)
	}
	order, both := quantity.Compare(a, b)
	truth := func(is bool) string {
		switch {
		case !both:
			return ""
		case is:
			return "1"
		}
		return "0"
	}
	switch n.word {
	case "+":
		return quantity.Add(a, b)
	case "-":
		return quantity.Sub(a, b)
	case "*":
		return quantity.Mul(a, b)
	case "/":
		return quantity.Div(a, b)
	case "eq":
		return truth(order == 0)
	case "lt":
		return truth(order < 0)
	case "le":
		return truth(order <= 0)
	case "else":
		if a != "" {
			return a
		}
		return b
	}
	if !both {
		return ""
	}
	if (order < 0) == (n.word == "lesser") {
		return a
	}
	return b
}

func (m *model) alongAt(n *tree, pos map[string]int) string {
	e := n.parts[0]
	size := e.kind.dims[e.kind.find(n.dim)].size
	var positions []int
	switch n.word {
	case "slice":
		return m.at(e, with(pos, n.dim, small(n.ints[0])+pos[n.dim]*small(n.ints[2])))
	case "reduction":
		positions = upTo(size)
	case "window":
		for i := max(0, pos[n.dim]-small(n.ints[0])+1); i <= pos[n.dim]; i++ {
			positions = append(positions, i)
		}
	default:
		positions = n.groups[pos[n.field]]
	}
	var l []string
	for _, i := range positions {
		l = append(l, m.at(e, with(pos, n.dim, i)))
	}
	red := slices.Index([]string{"", "sum", "mean", "min", "max", "count"}, n.red)
	x, _ := array.Reduced(l, red)
	return x
}

// all returns the elements of a slab.
func (m *model) all(n *tree, slab []api.Cut) api.Array {
	a := api.Array{Shape: shapeOf(slab)}
	for _, index := range indexesOf(a.Shape) {
		pos := map[string]int{}
		for k, i := range inSlab(slab, index) {
			pos[n.kind.dims[k].name] = i
		}
		a.Vals = append(a.Vals, m.at(n, pos))
	}
	return a
}

// used returns the chunks that a slab uses.
func (m *model) used(n *tree, slab []api.Cut) []api.Chunk {
	seen := map[string]api.Chunk{}
	m.touch = func(path, name string, index []int) {
		chunk := api.Chunk{Path: path, Name: name, Index: []int{}}
		key := path + " " + name
		for k, i := range index {
			number := i / m.vars[path+" "+name].Chunks[k]
			chunk.Index = append(chunk.Index, number)
			key += " " + string(rune('A'+number))
		}
		seen[key] = chunk
	}
	m.all(n, slab)
	m.touch = nil
	var list []api.Chunk
	for _, key := range slices.Sorted(maps.Keys(seen)) {
		list = append(list, seen[key])
	}
	return list
}

// full returns the slab of all elements.
func full(shape []int) []api.Cut {
	slab := make([]api.Cut, len(shape))
	for k, size := range shape {
		slab[k] = api.Cut{Count: size, Step: 1}
	}
	return slab
}

// box returns the slab of a chunk of a variable.
func (m *model) box(c api.Chunk) []api.Cut {
	v := m.vars[c.Path+" "+c.Name]
	shape := v.shape()
	slab := []api.Cut{}
	for k, i := range c.Index {
		start := i * v.Chunks[k]
		slab = append(slab, api.Cut{Start: start, Count: min(start+v.Chunks[k], shape[k]) - start, Step: 1})
	}
	return slab
}

// elements returns the number of the elements of chunks.
func (m *model) elements(chunks []api.Chunk) int {
	n := 0
	for _, c := range chunks {
		n += product(shapeOf(m.box(c)))
	}
	return n
}

// others returns data with other elements than the model's, but for those of coordinates and of some chunks.
func (m *model) others(r *rand.Rand, chunks []api.Chunk) []api.Data {
	var list []api.Data
	for _, d := range m.data {
		if len(m.vars[d.Path+" "+d.Name].Attrs) > 0 {
			list = append(list, d)
			continue
		}
		a := api.Array{Shape: d.A.Shape}
		for range d.A.Vals {
			a.Vals = append(a.Vals, someValue(r))
		}
		for _, c := range chunks {
			if c.Path == d.Path && c.Name == d.Name {
				part, _ := array.Slice(d.A, m.box(c))
				a, _ = array.Paste(a, m.box(c), part)
			}
		}
		list = append(list, api.Data{Path: d.Path, Name: d.Name, A: a})
	}
	return list
}
