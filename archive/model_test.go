package archive_test

import (
	"fmt"
	"maps"
	"math/rand/v2"
	"slices"
	"strings"
	"testing"

	"arrayarchive/api"
	"arrayarchive/archive"
	"arrayarchive/array"
	"arrayarchive/codec"
	"arrayarchive/schema"
	"arrayarchive/store"
)

// stored is a value in a store; another put of the same bytes makes another one.
type stored struct {
	put   int // from 1 on
	bytes string
}

// modelVar is a variable with all that an archive has of it.
type modelVar struct {
	id, count int
	note      string
	array     api.Array
}

// modelContent is a content as the chapter describes it. The variables are by their path, a space, and their name.
type modelContent struct {
	generation, format, given int
	schema                    api.Schema
	vars                      map[string]modelVar
	keys                      map[string]stored
}

// modelWork is an open transaction.
type modelWork struct {
	modelContent
	written map[int]bool // ids
	puts    map[string]bool
}

// model is an archive as the chapter describes it, beside the one that is tested.
type model struct {
	t       *testing.T
	r       *rand.Rand
	disk    *store.Disk
	archive *archive.Archive
	now     *modelContent
	work    *modelWork // or nil
	puts    int
	damaged map[int]bool // puts
	views   []*archive.View
	seen    []*modelContent
	tally   map[string]int
}

func varKey(path, name string) string { return path + " " + name }

// each calls do for each variable of a schema, in order.
func each(s api.Schema, do func(path string, v api.Var, shape []int)) {
	for _, g := range s.Groups {
		for _, v := range g.Vars {
			shape, _ := schema.Shape(s, g.Path, v.Name)
			do(g.Path, v, shape)
		}
	}
}

// fillOf returns the fill of a variable, and the error of one that has none.
func fillOf(v api.Var) (string, api.Errno) {
	if len(v.Stages) == 0 || v.Stages[0].Kind != api.StageRound {
		return v.Fill, api.OK
	}
	l, errno := codec.Rounded(v.Type, []string{v.Fill}, v.Stages[0].Step)
	if errno != api.OK {
		return "", errno
	}
	return l[0], api.OK
}

// elementsOf returns the elements of a chunk, with the fill beyond the shape.
func elementsOf(v api.Var, a api.Array, index []int) []string {
	fill, _ := fillOf(v)
	size := 1
	for _, n := range v.Chunks {
		size *= n
	}
	vals := make([]string, size)
	for i := range vals {
		at, rest := make([]int, len(index)), i
		for k := len(index) - 1; k >= 0; k-- {
			at[k] = index[k]*v.Chunks[k] + rest%v.Chunks[k]
			rest /= v.Chunks[k]
		}
		x, errno := array.At(a, at)
		if errno != api.OK {
			x = fill
		}
		vals[i] = x
	}
	return vals
}

func keyOf(id int, index []int) string {
	return fmt.Sprintf("%d/%s", id, strings.Join(strings.Fields(strings.Trim(fmt.Sprint(index), "[]")), "."))
}

func newModel(t *testing.T, seed uint64) *model {
	r := newRandom(seed)
	m := &model{t: t, r: r, tally: map[string]int{}, damaged: map[int]bool{}}
	m.disk = newDisk(t, pick(r, []int{8, 16, 30, 60, 200}))
	format := 1 + r.IntN(2)
	m.archive = create(t, m.disk, format)
	m.now = &modelContent{generation: 1, format: format, schema: schema.Empty(), vars: map[string]modelVar{}}
	m.now.keys = m.metaKeys(m.now)
	m.begin()
	for _, c := range []api.Change{dim("/", "s", r.IntN(4)), dim("/", "t", 1+r.IntN(3)), group("/a"), vari("/a", m.someVar()), vari("/", m.someVar())} {
		m.make(c)
	}
	return m
}

func (m *model) put(b string) stored {
	m.puts++
	return stored{m.puts, b}
}

// metaKeys returns the keys of the schema and the state.
func (m *model) metaKeys(c *modelContent) map[string]stored {
	b, errno := schema.Encode(c.schema, c.format)
	checkErrno(m.t, "Encode", errno, api.OK)
	state := fmt.Sprintln(c.given)
	each(c.schema, func(path string, v api.Var, shape []int) {
		x := c.vars[varKey(path, v.Name)]
		note := fmt.Sprintf("%x", x.note)
		if note == "" {
			note = "-"
		}
		state += fmt.Sprintln(path, v.Name, x.id, x.count, note)
	})
	return map[string]stored{"schema": m.put(string(b)), "state": m.put(state)}
}

func (m *model) begin() {
	want := api.OK
	if m.work != nil {
		want = api.ErrBusy
	}
	checkErrno(m.t, "Begin", m.archive.Begin(), want)
	if want == api.OK {
		m.work = m.copyNow()
	}
}

func (m *model) copyNow() *modelWork {
	c := *m.now
	c.vars = maps.Clone(c.vars)
	return &modelWork{c, map[int]bool{}, map[string]bool{}}
}

func (m *model) abort() {
	want := api.OK
	if m.work == nil {
		want = api.ErrBusy
	}
	checkErrno(m.t, "Abort", m.archive.Abort(), want)
	m.work = nil
}

// result returns the content that a transaction commits.
func (m *model) result(w *modelWork) *modelContent {
	c := w.modelContent
	c.generation++
	c.vars = map[string]modelVar{}
	shapes := map[int][]int{}
	for _, x := range m.now.vars {
		shapes[x.id] = x.array.Shape
	}
	for key, x := range w.vars {
		if old, ok := shapes[x.id]; w.written[x.id] || ok && !slices.Equal(old, x.array.Shape) {
			x.count++
		}
		c.vars[key] = x
	}
	c.keys = m.metaKeys(&c)
	each(c.schema, func(path string, v api.Var, shape []int) {
		x := c.vars[varKey(path, v.Name)]
		indexes, _ := array.Chunks(shape, v.Chunks)
		for _, index := range indexes {
			key := keyOf(x.id, index)
			if old, ok := w.keys[key]; w.puts[key] {
				b, errno := codec.Encode(v.Type, v.Stages, elementsOf(v, x.array, index))
				checkErrno(m.t, "Encode", errno, api.OK)
				c.keys[key] = m.put(string(b))
			} else if ok {
				c.keys[key] = old
			}
		}
	})
	return &c
}

// isFull reports whether a commit of a content needs more blocks than are free.
func (m *model) isFull(c *modelContent) bool {
	blocks := func(n int) int { return (n + 239) / 240 }
	index := func(c *modelContent) int {
		size := 0
		for key, x := range c.keys {
			size += 8 + len(key) + 2*blocks(len(x.bytes))
		}
		return max(1, blocks(size))
	}
	free := m.disk.Blocks() - 2
	states, seen := map[*modelContent]bool{m.now: true}, map[int]bool{}
	for _, pinned := range m.seen {
		states[pinned] = true
	}
	for state := range states {
		free -= index(state)
		for _, x := range state.keys {
			if !seen[x.put] {
				free -= blocks(len(x.bytes))
			}
			seen[x.put] = true
		}
	}
	need := index(c)
	for key, x := range c.keys {
		if m.now.keys[key].put != x.put {
			need += blocks(len(x.bytes))
		}
	}
	return need > free
}

// commits makes a call that commits a content, perhaps with a disk that goes down.
func (m *model) commits(name string, c *modelContent, call func() api.Errno) {
	want := api.OK
	if m.isFull(c) {
		want = api.ErrFull
	}
	if m.r.IntN(4) == 0 {
		m.disk.Arm(1 + m.r.IntN(10))
	}
	errno := call()
	if want == api.OK && errno == api.ErrDown {
		m.tally[name+" down"]++
		m.restart(c)
		return
	}
	m.disk.Arm(0)
	checkErrno(m.t, name, errno, want)
	if want != api.OK {
		m.tally[name+" full"]++
		return
	}
	m.tally[name]++
	m.now, m.work = c, nil
}

func (m *model) commit() {
	if m.work == nil {
		checkErrno(m.t, "Commit", m.archive.Commit(), api.ErrBusy)
		return
	}
	m.commits("Commit", m.result(m.work), m.archive.Commit)
}

func (m *model) upgrade() {
	switch {
	case m.work != nil:
		checkErrno(m.t, "Upgrade", m.archive.Upgrade(), api.ErrBusy)
	case m.now.format == 2:
		checkErrno(m.t, "Upgrade", m.archive.Upgrade(), api.OK)
	default:
		w := m.copyNow()
		w.format = 2
		m.commits("Upgrade", m.result(w), m.archive.Upgrade)
	}
}

// bad returns the damaged chunks of a content.
func (m *model) bad(c *modelContent) []api.Chunk {
	var l []api.Chunk
	each(c.schema, func(path string, v api.Var, shape []int) {
		indexes, _ := array.Chunks(shape, v.Chunks)
		for _, index := range indexes {
			if x, ok := c.keys[keyOf(c.vars[varKey(path, v.Name)].id, index)]; ok && m.damaged[x.put] {
				l = append(l, api.Chunk{Path: path, Name: v.Name, Index: index})
			}
		}
	})
	return l
}

func (m *model) repair() {
	bad := m.bad(m.now)
	if m.work != nil || len(bad) == 0 {
		l, errno := m.archive.Repair()
		want := api.OK
		if m.work != nil {
			want = api.ErrBusy
		}
		if len(l) > 0 || errno != want {
			m.t.Errorf("Repair: %v, error %d, want %d", l, errno, want)
		}
		return
	}
	w := m.copyNow()
	w.keys = maps.Clone(w.keys)
	for _, c := range bad {
		name := varKey(c.Path, c.Name)
		x := w.vars[name]
		w.written[x.id] = true
		delete(w.keys, keyOf(x.id, c.Index))
		v, _ := schema.Find(w.schema, c.Path, c.Name)
		fill, _ := fillOf(v)
		box, _ := array.Box(x.array.Shape, v.Chunks, c.Index)
		x.array, _ = array.Paste(x.array, box, filledSlab(box, fill))
		w.vars[name] = x
	}
	m.commits("Repair", m.result(w), func() api.Errno {
		l, errno := m.archive.Repair()
		if errno == api.OK && !sameChunks(l, bad) || errno != api.OK && l != nil {
			m.t.Errorf("Repair: %v, want %v", l, bad)
		}
		return errno
	})
}

func filledSlab(slab []api.Cut, x string) api.Array {
	var shape []int
	for _, c := range slab {
		shape = append(shape, c.Count)
	}
	a, _ := array.Fill(shape, x)
	return a
}

// spoil changes a byte of a chunk of the committed content; the archive says of which one, as a byte of anything else is changed back.
func (m *model) spoil() {
	before := m.bad(m.now)
	for range 20 {
		block, at, by := m.r.IntN(m.disk.Blocks()), m.r.IntN(api.MaxBlock), byte(1<<m.r.IntN(8))
		checkErrno(m.t, "Spoil", m.disk.Spoil(block, at, by), api.OK)
		after, errno := m.archive.Damaged()
		checkErrno(m.t, "Damaged", errno, api.OK)
		if sameChunks(after, before) {
			checkErrno(m.t, "Spoil back", m.disk.Spoil(block, at, by), api.OK)
			continue
		}
		if len(after) != len(before)+1 {
			m.t.Errorf("damaged chunks %v, and %v before one byte was changed", after, before)
		}
		for _, c := range after {
			x, ok := m.now.keys[keyOf(m.now.vars[varKey(c.Path, c.Name)].id, c.Index)]
			if !ok {
				m.t.Errorf("the chunk %v is damaged, and not there", c)
			}
			m.damaged[x.put] = true
		}
		m.tally["damage"]++
		return
	}
}

// restart lets the power fail, and goes on with what Open finds: the content, or the one that was being committed.
func (m *model) restart(next *modelContent) {
	m.disk.Crash(func() []bool {
		keep := make([]bool, m.r.IntN(16))
		for k := range keep {
			keep[k] = m.r.IntN(3) > 0
		}
		return keep
	}())
	for _, v := range m.views {
		checkClosed(m.t, "a view behind a crash", v, api.ErrDown)
	}
	checkErrno(m.t, "Begin behind a crash", m.archive.Begin(), api.ErrDown)
	m.archive = open(m.t, m.disk)
	if next != nil && m.archive.Generation() == next.generation {
		m.now = next
	}
	m.work, m.views, m.seen = nil, nil, nil
}
