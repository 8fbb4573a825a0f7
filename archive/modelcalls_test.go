package archive_test

import (
	"bytes"
	"fmt"
	"maps"
	"slices"
	"testing"

	"arrayarchive/api"
	"arrayarchive/array"
	"arrayarchive/codec"
	"arrayarchive/quantity"
	"arrayarchive/schema"
)

func (m *model) someName() string { return pick(m.r, []string{"v", "w", "x"}) }

func (m *model) somePath() string { return pick(m.r, []string{"/", "/", "/", "/a", "/a", "/a", "/b"}) }

// someVar returns a variable that is often valid.
func (m *model) someVar() api.Var {
	r := m.r
	v := api.Var{Name: m.someName(), Type: pick(r, []int{api.TypeI8, api.TypeI16, api.TypeI16, api.TypeI64, api.TypeNum}), Fill: pick(r, []string{"", "0", "7", "-128"})}
	for _, name := range pick(r, [][]string{nil, {"s"}, {"t"}, {"s", "t"}, {"t", "s"}, {"t", "none"}}) {
		v.Dims = append(v.Dims, name)
		v.Chunks = append(v.Chunks, 1+r.IntN(4))
	}
	if r.IntN(3) == 0 {
		v.Stages = append(v.Stages, rounding(pick(r, []string{"5", "1/2", "100", "255"})))
	}
	if r.IntN(2) == 0 {
		v.Stages = append(v.Stages, somePipeline(r)...)
	}
	if len(v.Stages) < 4 && r.IntN(12) == 0 {
		v.Stages = append(v.Stages, api.Stage{Kind: api.StagePack})
	}
	if r.IntN(4) == 0 {
		v.Unit = "m"
	}
	if m.now.format == 1 && r.IntN(4) > 0 {
		v.Unit, v.Stages = "", nil
	}
	return v
}

func (m *model) someChange() api.Change {
	c := api.Change{Path: m.somePath(), Name: m.someName(), New: m.someName()}
	switch n := m.r.IntN(16); {
	case n < 5:
		c.Kind, c.Var = api.AddVar, m.someVar()
	case n < 8:
		c.Kind, c.Dim = api.AddDim, api.Dim{Name: pick(m.r, []string{"s", "t"}), Size: m.r.IntN(4), Open: true}
	case n < 11:
		c.Kind, c.Name, c.Size = api.Grow, pick(m.r, []string{"s", "t"}), m.r.IntN(3)
	case n == 11:
		c.Kind, c.Path = api.AddGroup, pick(m.r, []string{"/a", "/b", "/a/c"})
	case n == 12:
		c.Kind = api.DropVar
	case n == 13:
		c.Kind = api.NameVar
	case n == 14:
		c.Kind, c.Name, c.New = api.NameDim, pick(m.r, []string{"s", "t"}), pick(m.r, []string{"s", "t", "u"})
	default:
		c.Kind, c.Attr = pick(m.r, []int{api.SetAttr, api.DropAttr, api.DropGroup, api.DropDim}), api.Attr{Name: m.someName(), Kind: api.AttrText, Text: "text"}
	}
	return c
}

// changeError returns the error of a change, and the schema behind it.
func (m *model) changeError(c api.Change) (api.Schema, api.Errno) {
	next, errno := schema.Apply(m.work.schema, c)
	if errno != api.OK || c.Kind != api.AddVar {
		return next, errno
	}
	_, fill := fillOf(c.Var)
	switch {
	case m.work.format == 1 && (c.Var.Unit != "" || len(c.Var.Stages) > 0):
		return next, api.ErrVersion
	case !codec.Valid(c.Var.Type, c.Var.Stages):
		return next, api.ErrStage
	}
	return next, fill
}

func (m *model) make(c api.Change) {
	if m.work == nil {
		checkErrno(m.t, "Change", m.archive.Change(c), api.ErrBusy)
		return
	}
	next, want := m.changeError(c)
	m.tally[fmt.Sprintf("Change %d: %d", c.Kind, want)]++
	checkErrno(m.t, fmt.Sprintf("Change %+v", c), m.archive.Change(c), want)
	if want != api.OK {
		return
	}
	w := m.work
	w.schema = next
	from, to := varKey(c.Path, c.Name), varKey(c.Path, c.New)
	switch c.Kind {
	case api.AddVar:
		w.given++
		w.vars[varKey(c.Path, c.Var.Name)] = modelVar{id: w.given}
	case api.DropVar:
		delete(w.vars, from)
	case api.NameVar:
		w.vars[to] = w.vars[from]
		delete(w.vars, from)
	}
	each(next, func(path string, v api.Var, shape []int) {
		x := w.vars[varKey(path, v.Name)]
		fill, _ := fillOf(v)
		if x.array.Shape == nil {
			x.array, _ = array.Fill(make([]int, len(shape)), fill)
		}
		x.array, _ = array.Resize(x.array, shape, fill)
		w.vars[varKey(path, v.Name)] = x
	})
}

// someWrite returns the arguments of a write, which is often valid.
func (m *model) someWrite() (path, name string, slab []api.Cut, b api.Array) {
	path, name = m.somePath(), m.someName()
	shape, kind := []int{2}, api.TypeI8
	if m.work != nil && len(m.work.vars) > 0 && m.r.IntN(8) > 0 {
		key := pick(m.r, slices.Sorted(maps.Keys(m.work.vars)))
		fmt.Sscan(key, &path, &name)
		shape = m.work.vars[key].array.Shape
		v, _ := schema.Find(m.work.schema, path, name)
		kind = v.Type
	}
	slab = someSlab(m.r, shape)
	sizes := make([]int, len(slab))
	for k, c := range slab {
		sizes[k] = c.Count
	}
	b = someNumbers(m.r, kind, sizes)
	switch m.r.IntN(16) {
	case 0:
		slab = append(slab, api.Cut{Count: 1, Step: 1})
	case 1:
		b.Vals = append(b.Vals, "1")
	case 2:
		if len(b.Vals) > 0 {
			b.Vals[0] = pick(m.r, []string{"128", "-32768", "1/2", "", "x"})
		}
	}
	return path, name, slab, b
}

// writeError returns the error of a write, and the values that the variable gets.
func (m *model) writeError(path, name string, slab []api.Cut, b api.Array) (api.Array, api.Errno) {
	w := m.work
	v, errno := schema.Find(w.schema, path, name)
	if errno != api.OK {
		return b, errno
	}
	x := w.vars[varKey(path, name)]
	part, errno := array.Slice(x.array, slab)
	if errno != api.OK {
		return b, errno
	}
	if !array.Valid(b) || !slices.Equal(part.Shape, b.Shape) {
		return b, api.ErrShape
	}
	if slices.ContainsFunc(b.Vals, func(x string) bool { return !quantity.Fits(v.Type, x) }) {
		return b, api.ErrValue
	}
	if len(v.Stages) > 0 && v.Stages[0].Kind == api.StageRound {
		if b.Vals, errno = codec.Rounded(v.Type, b.Vals, v.Stages[0].Step); errno != api.OK {
			return b, errno
		}
	}
	touched, _ := array.Touched(x.array.Shape, v.Chunks, slab)
	for _, index := range touched {
		if old, ok := m.now.keys[keyOf(x.id, index)]; ok && m.damaged[old.put] && !w.puts[keyOf(x.id, index)] {
			return b, api.ErrStore
		}
	}
	return b, api.OK
}

func (m *model) write() {
	path, name, slab, b := m.someWrite()
	if m.work == nil {
		checkErrno(m.t, "Write", m.archive.Write(path, name, slab, b), api.ErrBusy)
		return
	}
	kept, want := m.writeError(path, name, slab, b)
	m.tally[fmt.Sprintf("Write: %d", want)]++
	checkErrno(m.t, fmt.Sprintf("Write %s %s %v %v", path, name, slab, b), m.archive.Write(path, name, slab, b), want)
	if want != api.OK {
		return
	}
	w := m.work
	x := w.vars[varKey(path, name)]
	v, _ := schema.Find(w.schema, path, name)
	touched, _ := array.Touched(x.array.Shape, v.Chunks, slab)
	for _, index := range touched {
		w.puts[keyOf(x.id, index)] = true
	}
	x.array, _ = array.Paste(x.array, slab, kept)
	w.vars[varKey(path, name)] = x
	w.written[x.id] = true
}

func (m *model) note() {
	path, name, note := m.somePath(), m.someName(), make([]byte, m.r.IntN(40))
	for i := range note {
		note[i] = byte(m.r.IntN(256))
	}
	if m.work == nil {
		checkErrno(m.t, "SetNote", m.archive.SetNote(path, name, note), api.ErrBusy)
		return
	}
	x, ok := m.work.vars[varKey(path, name)]
	if !ok {
		checkErrno(m.t, "SetNote", m.archive.SetNote(path, name, note), api.ErrNone)
		return
	}
	checkErrno(m.t, "SetNote", m.archive.SetNote(path, name, note), api.OK)
	x.note = string(note)
	m.work.vars[varKey(path, name)] = x
}

func (m *model) view() {
	v, errno := m.archive.View()
	if len(m.views) == 16 {
		checkErrno(m.t, "View", errno, api.ErrLimit)
		return
	}
	checkErrno(m.t, "View", errno, api.OK)
	m.views, m.seen = append(m.views, v), append(m.seen, m.now)
}

func (m *model) release() {
	if len(m.views) == 0 {
		return
	}
	i := m.r.IntN(len(m.views))
	checkErrno(m.t, "Release", m.views[i].Release(), api.OK)
	checkClosed(m.t, "a released view", m.views[i], api.ErrClosed)
	m.views, m.seen = slices.Delete(m.views, i, i+1), slices.Delete(m.seen, i, i+1)
}

// checkReads compares an archive or a view with a content.
func (m *model) checkReads(name string, x reader, c *modelContent) {
	t := m.t
	checkGeneration(t, name, x, c.generation)
	s, errno := x.Schema()
	if !schema.Equal(s, c.schema) || errno != api.OK {
		t.Errorf("%s: schema %v, error %d, want %v", name, s, errno, c.schema)
	}
	var all []api.Data
	want := api.OK
	each(c.schema, func(path string, v api.Var, shape []int) {
		have := c.vars[varKey(path, v.Name)]
		checkCount(t, name+" "+path+" "+v.Name, x, path, v.Name, have.count)
		all = append(all, api.Data{Path: path, Name: v.Name, A: have.array})
		slab := someSlab(m.r, shape)
		part, _ := array.Slice(have.array, slab)
		errno := api.OK
		touched, _ := array.Touched(shape, v.Chunks, slab)
		for _, index := range touched {
			if old, ok := c.keys[keyOf(have.id, index)]; ok && m.damaged[old.put] {
				part, errno = api.Array{}, api.ErrStore
			}
		}
		if got, errno2 := x.Read(path, v.Name, slab); errno2 != errno || !same(got, part) {
			t.Errorf("%s: Read %s %s %v: %v, error %d, want %v, error %d", name, path, v.Name, slab, got, errno2, part, errno)
		}
	})
	if len(m.bad(c)) > 0 {
		all, want = nil, api.ErrStore
	}
	if got, errno := x.Data(); !sameData(got, all) || errno != want {
		t.Errorf("%s: Data: %v, error %d, want %v, error %d", name, got, errno, all, want)
	}
}

func (m *model) check() {
	m.checkReads("the archive", m.archive, m.now)
	for i, v := range m.views {
		m.checkReads("a view", v, m.seen[i])
	}
	if m.archive.Format() != m.now.format {
		m.t.Errorf("format %d, want %d", m.archive.Format(), m.now.format)
	}
	for _, g := range m.now.schema.Groups {
		for _, v := range g.Vars {
			want := []byte(m.now.vars[varKey(g.Path, v.Name)].note)
			if got, errno := m.archive.Note(g.Path, v.Name); !bytes.Equal(got, want) || errno != api.OK {
				m.t.Errorf("note %q, error %d, want %q", got, errno, want)
			}
		}
	}
	if l, errno := m.archive.Damaged(); !sameChunks(l, m.bad(m.now)) || errno != api.OK {
		m.t.Errorf("damaged %v, error %d, want %v", l, errno, m.bad(m.now))
	}
	m.checkStore()
}

// checkStore compares the keys and the values of the store, but for those that are damaged.
func (m *model) checkStore() {
	s := openStore(m.t, m.disk)
	keys, errno := s.Keys()
	if !slices.Equal(keys, slices.Sorted(maps.Keys(m.now.keys))) || errno != api.OK {
		m.t.Errorf("keys %q, error %d, want %q", keys, errno, slices.Sorted(maps.Keys(m.now.keys)))
	}
	for key, want := range m.now.keys {
		if got, errno := s.Get(key); !m.damaged[want.put] && (string(got) != want.bytes || errno != api.OK) {
			m.t.Errorf("the value of %s is %q, error %d, want %q", key, got, errno, want.bytes)
		}
	}
}

// act makes one call.
func (m *model) act() {
	switch n := m.r.IntN(50); {
	case n < 8:
		m.begin()
	case n < 20:
		m.make(m.someChange())
	case n < 30:
		m.write()
	case n < 33:
		m.note()
	case n < 41:
		m.commit()
	case n == 41:
		m.abort()
	case n == 42:
		m.upgrade()
	case n < 45:
		m.view()
	case n < 47:
		m.release()
	case n == 47:
		m.repair()
	case n == 48:
		if m.r.IntN(3) == 0 {
			m.spoil()
		}
	default:
		m.restart(nil)
	}
}

// P9.2 to P9.11, P9.13 to P9.15
func TestArchiveByModel(t *testing.T) {
	tally := map[string]int{}
	for seed := range uint64(160) {
		m := newModel(t, seed)
		for range 150 {
			m.act()
			m.check()
			if t.Failed() {
				t.Fatalf("seed %d", seed)
			}
		}
		for name, n := range m.tally {
			tally[name] += n
		}
	}
	for _, name := range []string{"Commit", "Commit full", "Commit down", "Upgrade", "Upgrade full", "Upgrade down", "Repair", "damage", "Write: 0", "Write: 31", "Write: 41", "Write: 53", "Write: 60", "Write: 61", "Change 7: 0", "Change 7: 40", "Change 7: 41", "Change 7: 90", "Change 6: 0", "Change 8: 0", "Change 9: 0", "Change 5: 0"} {
		if tally[name] == 0 {
			t.Errorf("there was no case of %s: %v", name, tally)
		}
	}
}
