package lab_test

import (
	"fmt"
	"math/rand/v2"
	"slices"
	"strings"
	"testing"

	"arrayarchive/api"
	"arrayarchive/array"
	"arrayarchive/calc"
	"arrayarchive/lab"
	"arrayarchive/quantity"
	"arrayarchive/schema"
	"arrayarchive/store"
)

// modelVar is what a lab has of a variable beside the schema.
type modelVar struct {
	array   api.Array
	count   int
	expr    string // or empty for an ordinary one
	sources []api.Source
}

// note returns the note that a variable has.
func (x modelVar) note() string {
	if x.expr == "" {
		return ""
	}
	note := "\x01" + x.expr + "\n"
	for _, s := range x.sources {
		note += fmt.Sprintf("%s %s %d\n", s.Path, s.Name, s.Version)
	}
	return note
}

// model is a lab as the chapter describes it, beside the one that is tested. The variables are by their path, a space, and their name.
type model struct {
	t          *testing.T
	r          *rand.Rand
	disk       *store.Disk
	lab        *lab.Lab
	schema     api.Schema
	vars       map[string]modelVar
	generation int
	tally      map[string]int
}

func varKey(path, name string) string { return path + " " + name }

// each calls do for each variable, in order.
func (m *model) each(do func(path string, v api.Var)) {
	for _, g := range m.schema.Groups {
		for _, v := range g.Vars {
			do(g.Path, v)
		}
	}
}

func (m *model) shape(path, name string) []int {
	shape, errno := schema.Shape(m.schema, path, name)
	checkErrno(m.t, "Shape", errno, api.OK)
	return shape
}

func (m *model) data() []api.Data {
	var l []api.Data
	m.each(func(path string, v api.Var) {
		l = append(l, api.Data{Path: path, Name: v.Name, A: m.vars[varKey(path, v.Name)].array})
	})
	return l
}

func (m *model) value(text string) (api.Shaped, api.Array, api.Errno) {
	s, errno := calc.Infer(m.schema, m.data(), text)
	a, other := calc.Value(m.schema, m.data(), text)
	checkErrno(m.t, "Value of "+text, other, errno)
	return s, a, errno
}

// text is the state of a lab that has what the model has.
func (m *model) text() string {
	text, errno := schema.Print(m.schema)
	checkErrno(m.t, "Print", errno, api.OK)
	m.each(func(path string, v api.Var) {
		x := m.vars[varKey(path, v.Name)]
		text += fmt.Sprintf("%s %s %v %s %d %q\n", path, v.Name, x.array.Shape, show(x.array), x.count, x.note())
	})
	return text
}

func (m *model) check(title string) {
	m.t.Helper()
	if got, want := state(m.t, m.lab), m.text(); got != want || m.lab.Archive().Generation() != m.generation {
		m.t.Fatalf("%s: %s, generation %d, want %s, generation %d", title, got, m.lab.Archive().Generation(), want, m.generation)
	}
}

// done notes what a call returned, which commits if it has no error.
func (m *model) done(name string, got, want api.Errno) bool {
	m.t.Helper()
	checkErrno(m.t, name, got, want)
	word, _, _ := strings.Cut(name, " ")
	m.tally[fmt.Sprint(word, " ", want)]++
	if want == api.OK {
		m.generation++
	}
	return want == api.OK
}

func newModel(t *testing.T, seed uint64) *model {
	m := &model{t: t, r: newRandom(seed), disk: newDisk(t, 1000), schema: schema.Empty(), vars: map[string]modelVar{}, generation: 1, tally: map[string]int{}}
	m.lab = create(t, m.disk)
	time := over("t", api.TypeI16, "", "t")
	for _, c := range []api.Change{dim("/", "t", 1+m.r.IntN(4)), dim("/", "s", m.r.IntN(4)), dim("/", "month", 1+m.r.IntN(2)), group("/a"), vari("/", time), attr("/", "t", "calendar", "noleap"), vari("/", m.someVar("v")), vari("/a", m.someVar("w"))} {
		m.change(c)
	}
	return m
}

func (m *model) somePath() string {
	return pick(m.r, []string{"/", "/", "/", "/", "/a", "/a", "/a", "/b"})
}

func (m *model) someName() string { return pick(m.r, []string{"v", "w", "x", "y", "z"}) }

// somePlace returns the place of a variable that is mostly there.
func (m *model) somePlace() (string, string) {
	if len(m.vars) == 0 || m.r.IntN(6) == 0 {
		return m.somePath(), m.someName()
	}
	var paths, names []string
	m.each(func(path string, v api.Var) { paths, names = append(paths, path), append(names, v.Name) })
	i := m.r.IntN(len(names))
	return paths[i], names[i]
}

func (m *model) someVar(name string) api.Var {
	v := over(name, pick(m.r, []int{api.TypeI16, api.TypeNum, api.TypeNum}), pick(m.r, []string{"", "", "m", "km", "degC"}), pick(m.r, [][]string{nil, {"t"}, {"t"}, {"s", "t"}})...)
	v.Fill = pick(m.r, []string{"", "0", "3"})
	if v.Type == api.TypeI16 && m.r.IntN(2) == 0 {
		v.Stages = []api.Stage{{Kind: api.StageDict}}
	}
	return v
}

func (m *model) someOperand() string {
	path, name := m.somePlace()
	if m.r.IntN(8) == 0 {
		return pick(m.r, []string{"1", "3/2", "0.5"})
	}
	return strings.TrimSuffix(path, "/") + "/" + name
}

// someExpr returns a text that is mostly one of an expression.
func (m *model) someExpr() string {
	a, b := m.someOperand(), m.someOperand()
	switch m.r.IntN(16) {
	case 0, 1:
		return a
	case 2, 3:
		return "bare(" + a + ")+bare( " + b + ")"
	case 4:
		return a + " - " + b
	case 5, 6:
		return a + "*" + b
	case 7, 8:
		return "sum(" + a + ",t)"
	case 9:
		return "cycle(mean, " + a + ",t,month)"
	case 10:
		return "window(max," + a + " , t, 2)"
	case 11:
		return "to(" + a + ",\"" + pick(m.r, []string{"m", "km", "K", "x"}) + "\")"
	case 12:
		return "slice(" + a + ", t, 0, 1, 1)"
	case 13:
		return "else(bare(" + a + "), bare(" + b + "))/2"
	case 14:
		return "count(" + a + ", s) + sum(bare(" + b + "), t)"
	}
	return a + pick(m.r, []string{" +", ")", "", "/none"})
}

// isDerived reports whether a variable is there and derived.
func (m *model) isDerived(path, name string) bool { return m.vars[varKey(path, name)].expr != "" }

func (m *model) change(c api.Change) {
	next, errno := schema.Apply(m.schema, c)
	if !m.done(fmt.Sprintf("Change %+v", c), m.lab.Change(c), errno) {
		return
	}
	m.schema = next
	from, to := varKey(c.Path, c.Name), varKey(c.Path, c.New)
	switch c.Kind {
	case api.DropVar:
		delete(m.vars, from)
	case api.NameVar:
		m.vars[to] = m.vars[from]
		delete(m.vars, from)
	}
	m.each(func(path string, v api.Var) {
		key, shape := varKey(path, v.Name), m.shape(path, v.Name)
		x, ok := m.vars[key]
		switch {
		case !ok:
			x.array, _ = array.Fill(shape, v.Fill)
		case !slices.Equal(x.array.Shape, shape):
			x.array, _ = array.Resize(x.array, shape, v.Fill)
			x.count++
		}
		m.vars[key] = x
	})
}

func (m *model) someChange() {
	c := api.Change{Path: m.somePath(), Name: m.someName(), New: m.someName()}
	switch n := m.r.IntN(12); {
	case n < 3:
		c = vari(c.Path, m.someVar(c.Name))
	case n < 5:
		c.Kind, c.Name, c.Size = api.Grow, pick(m.r, []string{"s", "t", "month"}), m.r.IntN(2)
	case n < 7:
		c.Kind = api.NameVar
		c.Path, c.Name = m.somePlace()
	case n < 9:
		c = drop(m.somePlace())
	case n == 9:
		c = dim(c.Path, pick(m.r, []string{"s", "t", "month"}), m.r.IntN(3))
	case n == 10:
		c = attr("/", "t", "calendar", pick(m.r, []string{"noleap", "360day"}))
	default:
		c = group("/b")
	}
	m.change(c)
}

// put gives a variable values; a derived one has its note anew.
func (m *model) put(path, name, expr string, a api.Array) {
	x := m.vars[varKey(path, name)]
	x.array, x.expr, x.sources = a, expr, nil
	if expr != "" {
		l, errno := calc.Names(expr)
		checkErrno(m.t, "Names", errno, api.OK)
		for _, n := range l {
			x.sources = append(x.sources, api.Source{Path: n.Path, Name: n.Name, Version: m.vars[varKey(n.Path, n.Name)].count})
		}
	}
	x.count++
	m.vars[varKey(path, name)] = x
}

func (m *model) write() {
	path, name := m.somePlace()
	x, ok := m.vars[varKey(path, name)]
	slab := someSlab(m.r, x.array.Shape)
	b := someArray(m.r, slab)
	want := api.OK
	if !ok {
		want = api.ErrNone
	} else if x.expr != "" {
		want = api.ErrDerived
	}
	if m.done("Write "+path+" "+name, m.lab.Write(path, name, slab, b), want) {
		a, errno := array.Paste(x.array, slab, b)
		checkErrno(m.t, "Paste", errno, api.OK)
		m.put(path, name, "", a)
	}
}

// deriveError returns the error of Derive in the order of the chapter, and the variable that is added.
func (m *model) deriveError(path, name string, s api.Shaped, errno api.Errno, chunks []int) (api.Var, api.Errno) {
	if errno != api.OK {
		return api.Var{}, errno
	}
	if s.Unit.Offset != "0" {
		return api.Var{}, api.ErrUnit
	}
	if !slices.ContainsFunc(m.schema.Groups, func(g api.Group) bool { return g.Path == path }) {
		return api.Var{}, api.ErrNone
	}
	if _, ok := m.vars[varKey(path, name)]; ok {
		return api.Var{}, api.ErrExists
	}
	for k, name := range s.Dims {
		_, d, errno := schema.Resolve(m.schema, path, name)
		if errno != api.OK || d.Size != s.Sizes[k] {
			return api.Var{}, api.ErrDims
		}
	}
	v := api.Var{Name: name, Type: api.TypeNum, Dims: s.Dims, Chunks: chunks}
	if s.Unit.Factor != "1" || s.Unit.Powers != [7]int{} {
		v.Unit, _ = quantity.FormatUnit(s.Unit)
	}
	return v, api.OK
}

func (m *model) derive() {
	path, name, text := m.somePath(), m.someName(), m.someExpr()
	s, a, errno := m.value(text)
	var chunks []int
	for range s.Dims {
		chunks = append(chunks, 1+m.r.IntN(3))
	}
	if m.r.IntN(20) == 0 {
		chunks = append(chunks, 0)
	}
	v, want := m.deriveError(path, name, s, errno, chunks)
	next := m.schema
	if want == api.OK {
		next, want = schema.Apply(m.schema, vari(path, v))
	}
	if m.done("Derive "+path+" "+name+" "+text, m.lab.Derive(path, name, text, chunks), want) {
		expr, errno := calc.Format(text)
		checkErrno(m.t, "Format", errno, api.OK)
		m.schema = next
		m.put(path, name, expr, a)
		if ok, errno := m.lab.Current(path, name); !ok || errno != api.OK {
			m.t.Errorf("behind Derive of %s: Current %v, error %d", text, ok, errno)
		}
	}
}

// result returns the values of the result of a derived variable, and whether it fits.
func (m *model) result(path, name string) (api.Array, bool) {
	v, _ := schema.Find(m.schema, path, name)
	s, a, errno := m.value(m.vars[varKey(path, name)].expr)
	if errno != api.OK || !slices.Equal(s.Dims, v.Dims) {
		return api.Array{}, false
	}
	for k, name := range v.Dims {
		_, d, errno := schema.Resolve(m.schema, path, name)
		if errno != api.OK || d.Size != s.Sizes[k] {
			return api.Array{}, false
		}
	}
	unit := v.Unit
	if unit == "" {
		unit = "1"
	}
	u, errno := quantity.ParseUnit(unit)
	return a, errno == api.OK && u == s.Unit
}

func (m *model) isCurrent(path, name string) bool {
	a, fits := m.result(path, name)
	return fits && same(a, m.vars[varKey(path, name)].array)
}

// order returns the derived variables in the order of the chapter, and ErrCycle if one depends on itself.
func (m *model) order() ([]api.Chunk, api.Errno) {
	var all []api.Chunk
	m.each(func(path string, v api.Var) {
		if m.isDerived(path, v.Name) {
			all = append(all, api.Chunk{Path: path, Name: v.Name})
		}
	})
	// on[a][b]: a depends on b.
	on := map[string]map[string]bool{}
	for _, c := range all {
		on[varKey(c.Path, c.Name)] = map[string]bool{}
		for _, s := range m.vars[varKey(c.Path, c.Name)].sources {
			if m.isDerived(s.Path, s.Name) {
				on[varKey(c.Path, c.Name)][varKey(s.Path, s.Name)] = true
			}
		}
	}
	for range all {
		for _, below := range on {
			for key := range on {
				if !below[key] {
					continue
				}
				for deep := range on[key] {
					below[deep] = true
				}
			}
		}
	}
	placed := map[string]bool{}
	var l []api.Chunk
	for len(l) < len(all) {
		next := slices.IndexFunc(all, func(c api.Chunk) bool {
			key := varKey(c.Path, c.Name)
			for deep := range on[key] {
				if !placed[deep] {
					return false
				}
			}
			return !placed[key]
		})
		if next < 0 {
			return nil, api.ErrCycle
		}
		placed[varKey(all[next].Path, all[next].Name)] = true
		l = append(l, all[next])
	}
	return l, api.OK
}

func (m *model) refresh() {
	l, errno := m.order()
	var want []api.Chunk
	for _, c := range l {
		if a, fits := m.result(c.Path, c.Name); fits && !m.isCurrent(c.Path, c.Name) {
			m.put(c.Path, c.Name, m.vars[varKey(c.Path, c.Name)].expr, a)
			m.generation++
			want = append(want, c)
		}
	}
	m.tally[fmt.Sprintf("Refresh %d of %d", errno, min(len(want), 2))]++
	checkList(m.t, "Refresh", m.lab.Refresh, names(want), errno)
	if errno == api.OK {
		checkList(m.t, "a second Refresh", m.lab.Refresh, "", api.OK)
	}
}

// ask makes the calls that change nothing.
func (m *model) ask() {
	l, errno := m.order()
	m.tally[fmt.Sprint("Order ", errno)]++
	checkList(m.t, "Order", m.lab.Order, names(l), errno)
	var stale []api.Chunk
	m.each(func(path string, v api.Var) {
		x := m.vars[varKey(path, v.Name)]
		want := api.OK
		if x.expr == "" {
			want = api.ErrDerived
		}
		current := x.expr != "" && m.isCurrent(path, v.Name)
		if x.expr != "" && !current {
			stale = append(stale, api.Chunk{Path: path, Name: v.Name})
		}
		checkCurrent(m.t, "the model", m.lab, path, v.Name, current, want)
		info, errno := m.lab.Info(path, v.Name)
		if info.Expr != x.expr || !slices.Equal(info.Sources, x.sources) || errno != want {
			m.t.Errorf("Info: %v, error %d, want %v", info, errno, x)
		}
	})
	m.tally[fmt.Sprint("Stale ", min(len(stale), 2))]++
	checkList(m.t, "Stale", m.lab.Stale, names(stale), api.OK)
	text := m.someExpr()
	s, a, errno := m.value(text)
	got, vals, gotErrno := m.lab.Value(text)
	if !slices.Equal(got.Dims, s.Dims) || !slices.Equal(got.Sizes, s.Sizes) || got.Unit != s.Unit || !same(vals, a) || gotErrno != errno {
		m.t.Errorf("Value of %s: %v, %v, error %d, want %v, %v, error %d", text, got, vals, gotErrno, s, a, errno)
	}
}

// meddle gives a derived variable other values, or another expression, or makes an ordinary one of it, behind the back of the lab.
func (m *model) meddle() {
	path, name := m.somePlace()
	x, ok := m.vars[varKey(path, name)]
	v, _ := schema.Find(m.schema, path, name)
	if !ok || v.Type != api.TypeNum {
		return
	}
	expr := m.someExpr()
	formatted, errno := calc.Format(expr)
	if errno != api.OK || m.r.IntN(3) == 0 {
		formatted = ""
	}
	slab := wholeOf(x.array.Shape)
	b := someArray(m.r, slab)
	m.put(path, name, formatted, b)
	note := m.vars[varKey(path, name)].note()
	a := m.lab.Archive()
	do(m.t, a, func() {
		checkErrno(m.t, "Write", a.Write(path, name, slab, b), api.OK)
		checkErrno(m.t, "SetNote", a.SetNote(path, name, []byte(note)), api.OK)
	})
	m.generation++
}

// P10.2 to P10.6, P10.9, P10.10: any calls one after the other.
func TestCalls(t *testing.T) {
	tally := map[string]int{}
	for seed := range uint64(60) {
		m := newModel(t, seed)
		m.tally = tally
		for range 60 {
			switch n := m.r.IntN(20); {
			case n < 4:
				m.someChange()
			case n < 8:
				m.write()
			case n < 13:
				m.derive()
			case n < 16:
				m.refresh()
			case n == 16 && seed%3 == 0:
				m.meddle()
			case n == 17:
				m.disk.Crash(nil)
				m.lab = open(t, m.disk)
			}
			m.ask()
			m.check("behind a call")
		}
		if t.Failed() {
			t.Fatalf("the seed is %d", seed)
		}
	}
	for _, name := range []string{"Change 0", "Change 31", "Change 32", "Write 0", "Write 31", "Write 100", "Derive 0", "Derive 3", "Derive 10", "Derive 11", "Derive 30", "Derive 31", "Derive 32", "Derive 71", "Derive 72", "Refresh 0 of 0", "Refresh 0 of 1", "Refresh 0 of 2", "Refresh 101 of 0", "Order 0", "Order 101", "Stale 0", "Stale 1", "Stale 2"} {
		if tally[name] < 5 {
			t.Errorf("%s: %d times", name, tally[name])
		}
	}
}
