package archive_test

import (
	"fmt"
	"math"
	"testing"

	"arrayarchive/api"
	"arrayarchive/archive"
	"arrayarchive/array"
	"arrayarchive/schema"
	"arrayarchive/store"
)

// P9.2

// nested returns an archive with variables of several shapes, in the order of the groups and the names: /one of no dimension, /a's none of size 0, and square over (2, 3) with chunks of (2, 2).
func nested(t *testing.T) (*store.Disk, *archive.Archive) {
	t.Helper()
	d := newDisk(t, 100)
	a := create(t, d, 2)
	do(t, a, func() {
		change(t, a, dim("/", "x", 2))
		change(t, a, dim("/", "z", 0))
		change(t, a, group("/a"))
		change(t, a, dim("/a", "y", 3))
		change(t, a, vari("/a", api.Var{Name: "square", Type: api.TypeNum, Dims: []string{"x", "y"}, Chunks: []int{2, 2}, Unit: "km"}))
		change(t, a, vari("/a", api.Var{Name: "none", Type: api.TypeI8, Dims: []string{"y", "z"}, Chunks: []int{1, 1024}, Fill: "5"}))
		change(t, a, vari("/", api.Var{Name: "one", Type: api.TypeI64, Fill: "9"}))
		write(t, a, "/a", "square", "0:2:1 0:3:1", of("2 3", "1 2 3 4 5/7 _"))
	})
	return d, a
}

func TestRead(t *testing.T) {
	_, a := nested(t)
	view, errno := a.View()
	checkErrno(t, "View", errno, api.OK)
	for _, x := range []reader{a, view} {
		for _, c := range []struct {
			path, name, slab string
			want             api.Array
		}{
			{"/", "one", "", of("", "9")}, {"/a", "none", "0:3:1 0:0:1", of("3 0", "")}, {"/a", "none", "1:1:7 0:0:9", of("1 0", "")},
			{"/a", "square", "0:2:1 0:3:1", of("2 3", "1 2 3 4 5/7 _")}, {"/a", "square", "1:1:1 0:2:2", of("1 2", "4 _")}, {"/a", "square", "0:2:1 1:1:5", of("2 1", "2 5/7")},
			{"/a", "square", "2:0:1 0:3:1", of("0 3", "")}, {"/a", "square", "0:2:1 3:0:1", of("2 0", "")}, {"/a", "square", "0:1:1 2:1:9223372036854775807", of("1 1", "3")},
		} {
			got, errno := x.Read(c.path, c.name, cuts(c.slab))
			if !same(got, c.want) || errno != api.OK {
				t.Errorf("Read of %s %s %s: %v, error %d, want %v", c.path, c.name, c.slab, got, errno, c.want)
			}
		}
		got, errno := x.Data()
		want := []api.Data{{Path: "/", Name: "one", A: of("", "9")}, {Path: "/a", Name: "none", A: of("3 0", "")}, {Path: "/a", Name: "square", A: of("2 3", "1 2 3 4 5/7 _")}}
		if !sameData(got, want) || errno != api.OK {
			t.Errorf("Data: %v, error %d", got, errno)
		}
	}
}

// Every slab of a variable is the slab of its array, whatever its chunks are.
func TestReadOfSlabs(t *testing.T) {
	r := newRandom(1)
	for range 40 {
		d := newDisk(t, 400)
		a := create(t, d, 2)
		v := api.Var{Name: "v", Type: api.TypeI32, Fill: "-7"}
		var shape []int
		begin(t, a)
		for k := range r.IntN(5) {
			name := string(rune('p' + k))
			shape = append(shape, r.IntN(7-k))
			change(t, a, dim("/", name, shape[k]))
			v.Dims = append(v.Dims, name)
			v.Chunks = append(v.Chunks, 1+r.IntN(8))
		}
		change(t, a, vari("/", v))
		want, errno := array.Fill(shape, "-7")
		checkErrno(t, "Fill", errno, api.OK)
		for i := range 4 {
			slab := someSlab(r, shape)
			b := api.Array{}
			for _, c := range slab {
				b.Shape = append(b.Shape, c.Count)
			}
			b, _ = array.Fill(b.Shape, fmt.Sprint(i))
			for k := range b.Vals {
				b.Vals[k] = fmt.Sprint(i*10000 + k)
			}
			checkErrno(t, "Write", a.Write("/", "v", slab, b), api.OK)
			want, errno = array.Paste(want, slab, b)
			checkErrno(t, "Paste", errno, api.OK)
		}
		commit(t, a)
		checkWhole(t, fmt.Sprintf("%v by chunks of %v", shape, v.Chunks), a, "/", "v", show(want))
		for range 20 {
			slab := someSlab(r, shape)
			got, errno := a.Read("/", "v", slab)
			part, _ := array.Slice(want, slab)
			if errno != api.OK || !same(got, part) {
				t.Errorf("Read of %v by chunks of %v, %v: %v, error %d, want %v", shape, v.Chunks, slab, got, errno, part)
			}
		}
	}
}

// The calls are about the committed content, also while a transaction is open.
func TestReadInTransaction(t *testing.T) {
	_, a := made(t, 60, 2)
	begin(t, a)
	write(t, a, "/", "v", "0:3:1", of("3", "1 2 3"))
	checkErrno(t, "SetNote", a.SetNote("/", "v", []byte("note")), api.OK)
	change(t, a, grow("/", "t", 2))
	change(t, a, vari("/", line("w", 1, "0")))
	checkWhole(t, "in a transaction", a, "/", "v", "-1 -1 -1")
	checkCount(t, "in a transaction", a, "/", "v", 0)
	checkGeneration(t, "in a transaction", a, 2)
	note, errno := a.Note("/", "v")
	if len(note) > 0 || errno != api.OK {
		t.Errorf("in a transaction: note %q, error %d", note, errno)
	}
	_, errno = a.Read("/", "w", cuts("0:1:1"))
	checkErrno(t, "Read of what is not committed", errno, api.ErrNone)
	if l, errno := a.Data(); len(l) != 1 || show(l[0].A) != "-1 -1 -1" || errno != api.OK {
		t.Errorf("in a transaction: %v, error %d", l, errno)
	}
	change(t, a, api.Change{Kind: api.DropVar, Path: "/", Name: "v"})
	checkWhole(t, "in a transaction that drops it", a, "/", "v", "-1 -1 -1")
	checkErrno(t, "Abort", a.Abort(), api.OK)
	checkWhole(t, "behind Abort", a, "/", "v", "-1 -1 -1")
}

// noNames are no variables of the archive of made.
func noNames() [][2]string {
	return [][2]string{{"/", "w"}, {"/", ""}, {"/", "t"}, {"/a", "v"}, {"", "v"}, {"//", "v"}, {"/v", ""}, {"/", "v "}, {"\x00", "\xff"}}
}

// badSlabs are no slabs of a variable of size 3.
func badSlabs() [][]api.Cut {
	return [][]api.Cut{
		nil, {}, cuts("0:3:1 0:1:1"), cuts("0:4:1"), cuts("1:3:1"), cuts("3:1:1"), cuts("4:0:1"), cuts("0:3:2"), cuts("0:2:3"), cuts("-1:1:1"), cuts("0:-1:1"), cuts("0:1:0"), cuts("0:1:-1"), cuts("0:0:0"),
		{{Start: 0, Count: math.MaxInt, Step: 1}}, {{Start: 1, Count: 2, Step: math.MaxInt}}, {{Start: math.MinInt, Count: 1, Step: 1}}, make([]api.Cut, 100000),
	}
}

func refusedRead(t *testing.T, name string, x reader, path, vari string, slab []api.Cut, want api.Errno) {
	t.Helper()
	a, errno := x.Read(path, vari, slab)
	if len(a.Shape) > 0 || len(a.Vals) > 0 || errno != want {
		t.Errorf("Read %s: %v, error %d, want %d", name, a, errno, want)
	}
}

func TestReadErrors(t *testing.T) {
	d, a := made(t, 60, 2)
	do(t, a, func() {
		write(t, a, "/", "v", "0:3:1", of("3", "1 2 3"))
		change(t, a, vari("/", line("u", 3, "5")))
	})
	spoilValue(t, d, "1/1")
	view, _ := a.View()
	for _, x := range []reader{a, view} {
		for _, n := range noNames() {
			refusedRead(t, "of no variable", x, n[0], n[1], badSlabs()[0], api.ErrNone)
			refusedRead(t, "of no variable", x, n[0], n[1], cuts("0:3:1"), api.ErrNone)
			if count, errno := x.Count(n[0], n[1]); count != 0 || errno != api.ErrNone {
				t.Errorf("Count of no variable: %d, error %d", count, errno)
			}
		}
		for _, slab := range badSlabs() {
			refusedRead(t, fmt.Sprintf("of %.60v", slab), x, "/", "v", slab, api.ErrSlab)
		}
		for _, slab := range []string{"0:3:1", "2:1:1", "0:2:2", "1:2:1"} {
			refusedRead(t, "of a damaged chunk", x, "/", "v", cuts(slab), api.ErrStore)
		}
		for slab, want := range map[string]string{"0:2:1": "1 2", "1:1:5": "2", "3:0:1": "", "2:0:1": ""} {
			if b, errno := x.Read("/", "v", cuts(slab)); show(b) != want || errno != api.OK {
				t.Errorf("Read of %s beside a damaged chunk: %v, error %d", slab, b, errno)
			}
		}
		checkWhole(t, "beside a damaged chunk", x, "/", "u", "5 5 5")
		if l, errno := x.Data(); l != nil || errno != api.ErrStore {
			t.Errorf("Data with a damaged chunk: %v, error %d", l, errno)
		}
	}
	for _, n := range noNames() {
		if note, errno := a.Note(n[0], n[1]); note != nil || errno != api.ErrNone {
			t.Errorf("Note of no variable: %q, error %d", note, errno)
		}
	}
}

// A chunk is damaged if its bytes have no Decode, too.
func TestReadOfWrongBytes(t *testing.T) {
	for _, b := range [][]byte{{}, {1, 2, 3}, make([]byte, 300)} {
		d, _ := made(t, 60, 2)
		put(t, d, map[string][]byte{"1/0": b})
		a := open(t, d)
		refusedRead(t, "of wrong bytes", a, "/", "v", cuts("1:1:1"), api.ErrStore)
		if x, errno := a.Read("/", "v", cuts("2:1:1")); show(x) != "-1" || errno != api.OK {
			t.Errorf("Read beside wrong bytes: %v, error %d", x, errno)
		}
	}
}

// An open archive, and a view, do not read the schema and the state again.
func TestKnownContent(t *testing.T) {
	for _, key := range []string{"schema", "state"} {
		d, a := made(t, 60, 2)
		do(t, a, func() {
			write(t, a, "/", "v", "0:1:1", of("1", "4"))
			checkErrno(t, "SetNote", a.SetNote("/", "v", []byte{7}), api.OK)
		})
		view, _ := a.View()
		spoilValue(t, d, key)
		refusedOpen(t, "with a damaged "+key, d.Copy(), api.ErrStore)
		for _, x := range []reader{a, view} {
			checkWhole(t, "with a damaged "+key, x, "/", "v", "4 -1 -1")
			checkCount(t, "with a damaged "+key, x, "/", "v", 1)
			checkGeneration(t, "with a damaged "+key, x, 3)
			s, errno := x.Schema()
			if _, errno2 := schema.Find(s, "/", "v"); errno != api.OK || errno2 != api.OK {
				t.Errorf("with a damaged %s: schema %v, error %d", key, s, errno)
			}
		}
		if note, errno := a.Note("/", "v"); string(note) != "\x07" || errno != api.OK || a.Format() != 2 {
			t.Errorf("with a damaged %s: note %q, error %d, format %d", key, note, errno, a.Format())
		}
		if l, errno := a.Damaged(); len(l) > 0 || errno != api.OK {
			t.Errorf("with a damaged %s: damaged %v, error %d", key, l, errno)
		}
		// A commit writes them anew.
		do(t, a, func() {})
		checkWhole(t, "behind a commit", open(t, d), "/", "v", "4 -1 -1")
	}
}

// checkDead checks the calls of an archive that is not there.
func checkDead(t *testing.T, name string, a *archive.Archive) {
	t.Helper()
	if a.Generation() != 0 || a.Format() != 0 {
		t.Errorf("%s: generation %d, format %d", name, a.Generation(), a.Format())
	}
	s, e1 := a.Schema()
	_, e2 := a.Read("/", "v", cuts("0:3:1"))
	n, e3 := a.Count("/", "v")
	b, e4 := a.Note("/", "v")
	l, e5 := a.Data()
	damaged, e6 := a.Damaged()
	repaired, e7 := a.Repair()
	view, e8 := a.View()
	errnos := []api.Errno{e1, e2, e3, e4, e5, e6, e7, e8, a.Begin(), a.Change(dim("/", "q", 1)), a.Write("/", "v", cuts("0:1:1"), of("1", "1")), a.SetNote("/", "v", nil), a.Commit(), a.Abort(), a.Upgrade()}
	for i, errno := range errnos {
		if errno != api.ErrDown {
			t.Errorf("%s: error %d of call %d", name, errno, i)
		}
	}
	if len(s.Groups) > 0 || n != 0 || b != nil || l != nil || damaged != nil || repaired != nil || view != nil {
		t.Errorf("%s: results beside errors", name)
	}
	refusedRead(t, name, a, "/", "no", nil, api.ErrDown)
}

func TestDead(t *testing.T) {
	checkDead(t, "nil", nil)
	checkDead(t, "a zero value", &archive.Archive{})
	for _, format := range []int{1, 2} {
		for _, isOpen := range []bool{false, true} {
			d, a := made(t, 60, format)
			if isOpen {
				begin(t, a)
			}
			d.Arm(1)
			checkErrno(t, "Sync", d.Sync(), api.ErrDown)
			checkDead(t, "a disk that is down", a)
			d.Crash(nil)
			checkDead(t, "a disk that was down", a)
			b := open(t, d)
			checkWhole(t, "a new one beside a dead one", b, "/", "v", "-1 -1 -1")
			if isOpen {
				begin(t, b)
			}
			d.Crash(nil)
			checkDead(t, "a crash of a disk that is up", b)
			checkDead(t, "two crashes", a)
			checkWhole(t, "behind two crashes", open(t, d), "/", "v", "-1 -1 -1")
		}
	}
}
