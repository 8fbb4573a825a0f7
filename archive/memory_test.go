package archive_test

import (
	"fmt"
	"testing"

	"arrayarchive/api"
	"arrayarchive/archive"
	"arrayarchive/schema"
)

// R4

// rich returns an archive whose schema has all kinds of lists.
func rich(t *testing.T) *archive.Archive {
	t.Helper()
	d := newDisk(t, 100)
	a := create(t, d, 2)
	do(t, a, func() {
		change(t, a, dim("/", "t", 3))
		v := line("v", 2, "-1", rounding("1"), api.Stage{Kind: api.StageDelta, N: 2})
		v.Attrs = []api.Attr{{Name: "a", Kind: api.AttrNums, Nums: []string{"1", "2"}}}
		change(t, a, vari("/", v))
		change(t, a, api.Change{Kind: api.SetAttr, Path: "/", Attr: api.Attr{Name: "b", Kind: api.AttrNums, Nums: []string{"3"}}})
		write(t, a, "/", "v", "0:3:1", of("3", "1 2 3"))
		checkErrno(t, "SetNote", a.SetNote("/", "v", []byte("note")), api.OK)
	})
	return a
}

func spoilSchema(s api.Schema) {
	for _, g := range s.Groups {
		for _, v := range g.Vars {
			v.Dims[0], v.Chunks[0], v.Stages[0].N = "x", 9, 9
			v.Attrs[0].Nums[0] = "9"
			v.Attrs[0].Name = "x"
		}
		g.Dims[0].Size, g.Vars[0].Name, g.Attrs[0].Nums[0] = 9, "x", "9"
		g.Attrs[0].Kind = 9
	}
	s.Groups[0].Path = "x"
}

// Results are new memory.
func TestResultsAreNew(t *testing.T) {
	a := rich(t)
	view, errno := a.View()
	checkErrno(t, "View", errno, api.OK)
	before := content(t, a)
	for _, x := range []reader{a, view} {
		s, _ := x.Schema()
		spoilSchema(s)
		b, _ := x.Read("/", "v", cuts("0:3:1"))
		b.Vals[0], b.Shape[0] = "9", 9
		data, _ := x.Data()
		data[0].A.Vals[0], data[0].A.Shape[0], data[0].Name = "9", 9, "x"
		note, _ := a.Note("/", "v")
		note[0] = 'x'
		if after := content(t, a); after != before {
			t.Errorf("a result was changed: %s, want %s", after, before)
		}
		s, _ = x.Schema()
		again, _ := a.Schema()
		if !schema.Equal(s, again) {
			t.Errorf("schema %v, want %v", s, again)
		}
	}
}

// Arguments are neither changed nor kept, and the memory behind their ends is not used.
func TestArguments(t *testing.T) {
	a := rich(t)
	begin(t, a)
	v := line("w", 2, "5", rounding("1"))
	v.Dims = append(v.Dims, "behind")[:1]
	v.Chunks = append(v.Chunks, 7)[:1]
	v.Stages = append(v.Stages, api.Stage{Kind: 7})[:1]
	v.Attrs = []api.Attr{{Name: "a", Kind: api.AttrNums, Nums: append([]string{"1"}, "behind")[:1]}}
	slab := append(cuts("0:2:1"), api.Cut{Start: 77})[:1]
	b := api.Array{Shape: append([]int{2}, 77)[:1], Vals: append([]string{"7", "8"}, "behind")[:2]}
	note := append([]byte("new"), "behind"...)[:3]
	text := func() string {
		return fmt.Sprint(v, v.Dims[:2], v.Chunks[:2], v.Stages[:2], v.Attrs[0].Nums[:2], slab[:2], b, b.Shape[:2], b.Vals[:3], string(note[:9]))
	}
	before := text()
	change(t, a, vari("/", v))
	change(t, a, api.Change{Kind: api.SetAttr, Path: "/", Name: "w", Attr: v.Attrs[0]})
	checkErrno(t, "Write", a.Write("/", "w", slab, b), api.OK)
	checkErrno(t, "SetNote", a.SetNote("/", "w", note), api.OK)
	if after := text(); after != before {
		t.Errorf("arguments were changed: %s, want %s", after, before)
	}
	v.Dims[0], v.Chunks[0], v.Stages[0].Step, v.Attrs[0].Nums[0], v.Attrs[0].Name = "x", 9, "9", "9", "x"
	slab[0], b.Vals[0], b.Shape[0], note[0] = api.Cut{}, "9", 9, 'x'
	commit(t, a)
	checkWhole(t, "behind the calls", a, "/", "w", "7 8 5")
	if got, errno := a.Note("/", "w"); string(got) != "new" || errno != api.OK {
		t.Errorf("note %q, error %d", got, errno)
	}
	s, _ := a.Schema()
	got, errno := schema.Find(s, "/", "w")
	if errno != api.OK || got.Dims[0] != "t" || got.Chunks[0] != 2 || got.Stages[0].Step != "1" || got.Attrs[0].Nums[0] != "1" || got.Attrs[0].Name != "a" {
		t.Errorf("the variable is %v, error %d", got, errno)
	}
}

// A damaged chunk that is returned is new memory, too.
func TestChunksAreNew(t *testing.T) {
	d, a := made(t, 60, 2)
	do(t, a, func() { write(t, a, "/", "v", "0:3:1", of("3", "1 2 3")) })
	spoilValue(t, d, "1/0")
	for range 2 {
		l, _ := a.Damaged()
		if len(l) != 1 || l[0].Index[0] != 0 || l[0].Name != "v" {
			t.Fatalf("damaged %v", l)
		}
		l[0].Index[0], l[0].Name = 1, "x"
	}
	l, errno := a.Repair()
	if len(l) != 1 || l[0].Index[0] != 0 || errno != api.OK {
		t.Errorf("Repair: %v, error %d", l, errno)
	}
}
