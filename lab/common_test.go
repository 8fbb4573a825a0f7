package lab_test

import (
	"fmt"
	"math/rand/v2"
	"slices"
	"strings"
	"testing"

	"arrayarchive/api"
	"arrayarchive/archive"
	"arrayarchive/lab"
	"arrayarchive/schema"
	"arrayarchive/store"
)

func newRandom(seed uint64) *rand.Rand {
	return rand.New(rand.NewPCG(10, seed))
}

func pick[T any](r *rand.Rand, l []T) T {
	return l[r.IntN(len(l))]
}

func checkErrno(t *testing.T, name string, got, want api.Errno) {
	t.Helper()
	if got != want {
		t.Errorf("%s: error %d, want %d", name, got, want)
	}
}

func newDisk(t *testing.T, blocks int) *store.Disk {
	t.Helper()
	d, errno := store.NewDisk(blocks)
	if d == nil || errno != api.OK {
		t.Fatalf("NewDisk(%d): error %d", blocks, errno)
	}
	return d
}

func create(t *testing.T, d *store.Disk) *lab.Lab {
	t.Helper()
	l, errno := lab.Create(d)
	if l == nil || errno != api.OK {
		t.Fatalf("Create: error %d", errno)
	}
	return l
}

func open(t *testing.T, d *store.Disk) *lab.Lab {
	t.Helper()
	l, errno := lab.Open(d)
	if l == nil || errno != api.OK {
		t.Fatalf("Open: error %d", errno)
	}
	return l
}

// cuts returns a slab of the cuts Start:Count:Step in a text.
func cuts(text string) []api.Cut {
	var slab []api.Cut
	for _, word := range strings.Fields(text) {
		var c api.Cut
		fmt.Sscanf(word, "%d:%d:%d", &c.Start, &c.Count, &c.Step)
		slab = append(slab, c)
	}
	return slab
}

// wholeOf returns the slab of all elements of a shape.
func wholeOf(shape []int) []api.Cut {
	var slab []api.Cut
	for _, size := range shape {
		slab = append(slab, api.Cut{Count: size, Step: 1})
	}
	return slab
}

func ints(text string) []int {
	var l []int
	for _, word := range strings.Fields(text) {
		var n int
		fmt.Sscan(word, &n)
		l = append(l, n)
	}
	return l
}

// of returns an array of a shape and values in a text, with _ for a missing one.
func of(shape, vals string) api.Array {
	a := api.Array{Shape: ints(shape), Vals: strings.Fields(vals)}
	for i, x := range a.Vals {
		if x == "_" {
			a.Vals[i] = ""
		}
	}
	return a
}

// show returns the values of an array as a text.
func show(a api.Array) string {
	words := slices.Clone(a.Vals)
	for i, x := range words {
		if x == "" {
			words[i] = "_"
		}
	}
	return strings.Join(words, " ")
}

func same(a, b api.Array) bool {
	return slices.Equal(a.Shape, b.Shape) && slices.Equal(a.Vals, b.Vals)
}

// names returns variables as a text.
func names(l []api.Chunk) string {
	var words []string
	for _, c := range l {
		words = append(words, c.Path+":"+c.Name)
		if len(c.Index) > 0 {
			words = append(words, "with an index")
		}
	}
	return strings.Join(words, " ")
}

// read returns the values of a variable as a text.
func read(t *testing.T, l *lab.Lab, path, name string) string {
	t.Helper()
	s, errno := l.Archive().Schema()
	checkErrno(t, "Schema", errno, api.OK)
	shape, errno := schema.Shape(s, path, name)
	checkErrno(t, "Shape of "+path+" "+name, errno, api.OK)
	a, errno := l.Archive().Read(path, name, wholeOf(shape))
	checkErrno(t, "Read of "+path+" "+name, errno, api.OK)
	return show(a)
}

func checkRead(t *testing.T, title string, l *lab.Lab, path, name, want string) {
	t.Helper()
	if got := read(t, l, path, name); got != want {
		t.Errorf("%s: %s of %s is %q, want %q", title, name, path, got, want)
	}
}

func checkNote(t *testing.T, title string, l *lab.Lab, path, name, want string) {
	t.Helper()
	if got, errno := l.Archive().Note(path, name); string(got) != want || errno != api.OK {
		t.Errorf("%s: note %q, error %d, want %q", title, got, errno, want)
	}
}

// checkList checks what a call returns that returns variables.
func checkList(t *testing.T, title string, call func() ([]api.Chunk, api.Errno), want string, wantErrno api.Errno) {
	t.Helper()
	l, errno := call()
	if names(l) != want || errno != wantErrno {
		t.Errorf("%s: %q, error %d, want %q, error %d", title, names(l), errno, want, wantErrno)
	}
}

func checkCurrent(t *testing.T, title string, l *lab.Lab, path, name string, want bool, wantErrno api.Errno) {
	t.Helper()
	if got, errno := l.Current(path, name); got != want || errno != wantErrno {
		t.Errorf("%s: Current of %s of %s is %v, error %d, want %v, error %d", title, name, path, got, errno, want, wantErrno)
	}
}

// change, write and derive are calls of a lab which are expected to have no error.
func change(t *testing.T, l *lab.Lab, c api.Change) {
	t.Helper()
	checkErrno(t, fmt.Sprintf("Change %+v", c), l.Change(c), api.OK)
}

func write(t *testing.T, l *lab.Lab, path, name, slab string, b api.Array) {
	t.Helper()
	checkErrno(t, "Write "+path+" "+name+" "+slab, l.Write(path, name, cuts(slab), b), api.OK)
}

func derive(t *testing.T, l *lab.Lab, path, name, text string, chunks ...int) {
	t.Helper()
	checkErrno(t, "Derive "+path+" "+name+" "+text, l.Derive(path, name, text, chunks), api.OK)
}

// do makes a transaction of the archive itself.
func do(t *testing.T, a *archive.Archive, calls func()) {
	t.Helper()
	checkErrno(t, "Begin", a.Begin(), api.OK)
	calls()
	checkErrno(t, "Commit", a.Commit(), api.OK)
}

// setNote sets a note behind the back of the lab.
func setNote(t *testing.T, l *lab.Lab, path, name, note string) {
	t.Helper()
	a := l.Archive()
	do(t, a, func() { checkErrno(t, "SetNote", a.SetNote(path, name, []byte(note)), api.OK) })
}

// group, dim, vari, grow, drop, rename and attr are changes.
func group(path string) api.Change {
	return api.Change{Kind: api.AddGroup, Path: path}
}

func dim(path, name string, size int) api.Change {
	return api.Change{Kind: api.AddDim, Path: path, Dim: api.Dim{Name: name, Size: size, Open: true}}
}

func vari(path string, v api.Var) api.Change {
	return api.Change{Kind: api.AddVar, Path: path, Var: v}
}

func grow(path, name string, size int) api.Change {
	return api.Change{Kind: api.Grow, Path: path, Name: name, Size: size}
}

func drop(path, name string) api.Change {
	return api.Change{Kind: api.DropVar, Path: path, Name: name}
}

func rename(path, name, new string) api.Change {
	return api.Change{Kind: api.NameVar, Path: path, Name: name, New: new}
}

func attr(path, name, key, text string) api.Change {
	return api.Change{Kind: api.SetAttr, Path: path, Name: name, Attr: api.Attr{Name: key, Kind: api.AttrText, Text: text}}
}

// over returns a variable over dimensions, with chunks of 2.
func over(name string, kind int, unit string, dims ...string) api.Var {
	v := api.Var{Name: name, Type: kind, Dims: dims, Unit: unit}
	for range dims {
		v.Chunks = append(v.Chunks, 2)
	}
	return v
}

// made returns a lab with the open dimension t of size 3, its coordinate, which has one date in January and two in February of a year, the variable v over it, which is 1, missing, 3 in km, and the group /a with the variable w without dimensions, which is 7.
func made(t *testing.T, blocks int) (*store.Disk, *lab.Lab) {
	t.Helper()
	d := newDisk(t, blocks)
	l := create(t, d)
	change(t, l, dim("/", "t", 3))
	change(t, l, vari("/", over("t", api.TypeI16, "", "t")))
	change(t, l, attr("/", "t", "calendar", "noleap"))
	change(t, l, vari("/", over("v", api.TypeI16, "km", "t")))
	change(t, l, group("/a"))
	change(t, l, vari("/a", over("w", api.TypeNum, "")))
	write(t, l, "/", "t", "0:3:1", of("3", "0 31 32"))
	write(t, l, "/", "v", "0:3:1", of("3", "1 _ 3"))
	write(t, l, "/a", "w", "", of("", "7"))
	return d, l
}

// spoilValue changes a byte of the value of a key on a disk, which may be in use.
func spoilValue(t *testing.T, d *store.Disk, key string) {
	t.Helper()
	s, errno := store.Open(d.Copy())
	checkErrno(t, "store.Open", errno, api.OK)
	for i := 2; i < d.Blocks(); i++ {
		for at := 12; at < 32; at += 8 {
			c := d.Copy()
			c.Spoil(i, at, 64)
			x, errno := store.Open(c)
			if errno != api.OK || x.Generation() != s.Generation() {
				continue
			}
			before, _ := s.Damaged()
			if damaged, _ := x.Damaged(); len(damaged) > len(before) && slices.Contains(damaged, key) {
				checkErrno(t, "Spoil", d.Spoil(i, at, 64), api.OK)
				return
			}
		}
	}
	t.Fatalf("no byte of %s was found", key)
}

// state returns all that the archive of a lab has, but for its generation: the schema, and the values, the counts and the notes of the variables.
func state(t *testing.T, l *lab.Lab) string {
	t.Helper()
	a := l.Archive()
	s, errno := a.Schema()
	checkErrno(t, "Schema", errno, api.OK)
	text, errno := schema.Print(s)
	checkErrno(t, "Print", errno, api.OK)
	data, errno := a.Data()
	checkErrno(t, "Data", errno, api.OK)
	for _, x := range data {
		count, errno := a.Count(x.Path, x.Name)
		checkErrno(t, "Count", errno, api.OK)
		note, errno := a.Note(x.Path, x.Name)
		checkErrno(t, "Note", errno, api.OK)
		text += fmt.Sprintf("%s %s %v %s %d %q\n", x.Path, x.Name, x.A.Shape, show(x.A), count, note)
	}
	return text
}

// values returns the values of all variables as a text.
func values(t *testing.T, l *lab.Lab) string {
	t.Helper()
	data, errno := l.Archive().Data()
	checkErrno(t, "Data", errno, api.OK)
	text := ""
	for _, x := range data {
		text += fmt.Sprintf("%s %s %v %s\n", x.Path, x.Name, x.A.Shape, show(x.A))
	}
	return text
}

// someSlab returns a valid slab of a shape.
func someSlab(r *rand.Rand, shape []int) []api.Cut {
	slab := make([]api.Cut, len(shape))
	for k, size := range shape {
		c := api.Cut{Start: r.IntN(size + 1), Step: 1 + r.IntN(3)}
		if c.Start < size {
			c.Count = r.IntN((size-c.Start-1)/c.Step + 2)
		}
		slab[k] = c
	}
	return slab
}

// someArray returns an array of the shape of a slab, with small integers and missing values.
func someArray(r *rand.Rand, slab []api.Cut) api.Array {
	var a api.Array
	n := 1
	for _, c := range slab {
		a.Shape = append(a.Shape, c.Count)
		n *= c.Count
	}
	for range n {
		a.Vals = append(a.Vals, pick(r, []string{"", "0", "1", "2", "31", "-5"}))
	}
	return a
}
