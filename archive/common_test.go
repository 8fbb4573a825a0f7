package archive_test

import (
	"fmt"
	"maps"
	"math/rand/v2"
	"slices"
	"strings"
	"testing"

	"arrayarchive/api"
	"arrayarchive/archive"
	"arrayarchive/schema"
	"arrayarchive/store"
)

func newRandom(seed uint64) *rand.Rand {
	return rand.New(rand.NewPCG(9, seed))
}

func pick[T any](r *rand.Rand, l []T) T {
	return l[r.IntN(len(l))]
}

func checkErrno(t *testing.T, name string, got, want api.Errno) {
	t.Helper()
	if got != want {
		t.Errorf("%s: error %d, want %d", name, got, want)
	}
}

func newDisk(t *testing.T, blocks int) *store.Disk {
	t.Helper()
	d, errno := store.NewDisk(blocks)
	if d == nil || errno != api.OK {
		t.Fatalf("NewDisk(%d): error %d", blocks, errno)
	}
	return d
}

func create(t *testing.T, d *store.Disk, format int) *archive.Archive {
	t.Helper()
	a, errno := archive.Create(d, format)
	if a == nil || errno != api.OK {
		t.Fatalf("Create: error %d", errno)
	}
	return a
}

func open(t *testing.T, d *store.Disk) *archive.Archive {
	t.Helper()
	a, errno := archive.Open(d)
	if a == nil || errno != api.OK {
		t.Fatalf("Open: error %d", errno)
	}
	return a
}

// openStore returns the store that a copy of a disk holds.
func openStore(t *testing.T, d *store.Disk) *store.Store {
	t.Helper()
	s, errno := store.Open(d.Copy())
	if s == nil || errno != api.OK {
		t.Fatalf("store.Open: error %d", errno)
	}
	return s
}

// values returns what the store on a disk has.
func values(t *testing.T, d *store.Disk) map[string]string {
	t.Helper()
	s := openStore(t, d)
	keys, errno := s.Keys()
	checkErrno(t, "Keys", errno, api.OK)
	out := map[string]string{}
	for _, key := range keys {
		b, errno := s.Get(key)
		checkErrno(t, "Get of "+key, errno, api.OK)
		out[key] = string(b)
	}
	return out
}

func checkKeys(t *testing.T, name string, d *store.Disk, want ...string) {
	t.Helper()
	want = append(want, "schema", "state")
	slices.Sort(want)
	if got := slices.Sorted(maps.Keys(values(t, d))); !slices.Equal(got, want) {
		t.Errorf("%s: keys %q, want %q", name, got, want)
	}
}

func checkState(t *testing.T, name string, d *store.Disk, want string) {
	t.Helper()
	if got := values(t, d)["state"]; got != want {
		t.Errorf("%s: state %q, want %q", name, got, want)
	}
}

// put commits values of keys in the store on a disk, behind the back of the archive; nil is for a key that goes.
func put(t *testing.T, d *store.Disk, puts map[string][]byte) {
	t.Helper()
	s, errno := store.Open(d)
	checkErrno(t, "store.Open", errno, api.OK)
	checkErrno(t, "store.Begin", s.Begin(), api.OK)
	for key, b := range puts {
		if b == nil {
			checkErrno(t, "store.Delete", s.Delete(key), api.OK)
		} else {
			checkErrno(t, "store.Put", s.Put(key, b), api.OK)
		}
	}
	checkErrno(t, "store.Commit", s.Commit(), api.OK)
}

// spoilValue changes a byte of the value of a key on a disk, which may be in use.
func spoilValue(t *testing.T, d *store.Disk, key string) {
	t.Helper()
	for i := 2; i < d.Blocks(); i++ {
		for at := 12; at < 32; at += 8 {
			c := d.Copy()
			c.Spoil(i, at, 64)
			s, errno := store.Open(c)
			if errno != api.OK || s.Generation() != openStore(t, d).Generation() {
				continue
			}
			if damaged, _ := s.Damaged(); slices.Equal(damaged, []string{key}) {
				checkErrno(t, "Spoil", d.Spoil(i, at, 64), api.OK)
				return
			}
		}
	}
	t.Fatalf("no byte of %s was found", key)
}

// cuts returns a slab of the cuts Start:Count:Step in a text.
func cuts(text string) []api.Cut {
	var slab []api.Cut
	for _, word := range strings.Fields(text) {
		var c api.Cut
		fmt.Sscanf(word, "%d:%d:%d", &c.Start, &c.Count, &c.Step)
		slab = append(slab, c)
	}
	return slab
}

func ints(text string) []int {
	var l []int
	for _, word := range strings.Fields(text) {
		var n int
		fmt.Sscan(word, &n)
		l = append(l, n)
	}
	return l
}

// of returns an array of a shape and values in a text, with _ for a missing one.
func of(shape, vals string) api.Array {
	a := api.Array{Shape: ints(shape), Vals: strings.Fields(vals)}
	for i, x := range a.Vals {
		if x == "_" {
			a.Vals[i] = ""
		}
	}
	return a
}

// show returns the values of an array as a text.
func show(a api.Array) string {
	words := slices.Clone(a.Vals)
	for i, x := range words {
		if x == "" {
			words[i] = "_"
		}
	}
	return strings.Join(words, " ")
}

func same(a, b api.Array) bool {
	return slices.Equal(a.Shape, b.Shape) && slices.Equal(a.Vals, b.Vals)
}

func sameData(a, b []api.Data) bool {
	return slices.EqualFunc(a, b, func(x, y api.Data) bool { return x.Path == y.Path && x.Name == y.Name && same(x.A, y.A) })
}

// begin, and the calls below it, are those of an archive which are expected to have no error.
func begin(t *testing.T, a *archive.Archive) {
	t.Helper()
	checkErrno(t, "Begin", a.Begin(), api.OK)
}

func commit(t *testing.T, a *archive.Archive) {
	t.Helper()
	checkErrno(t, "Commit", a.Commit(), api.OK)
}

func change(t *testing.T, a *archive.Archive, c api.Change) {
	t.Helper()
	checkErrno(t, fmt.Sprintf("Change %+v", c), a.Change(c), api.OK)
}

func write(t *testing.T, a *archive.Archive, path, name, slab string, b api.Array) {
	t.Helper()
	checkErrno(t, "Write "+path+" "+name+" "+slab, a.Write(path, name, cuts(slab), b), api.OK)
}

// do makes a transaction.
func do(t *testing.T, a *archive.Archive, calls func()) {
	t.Helper()
	begin(t, a)
	calls()
	commit(t, a)
}

// reader is an archive or a view.
type reader interface {
	Generation() int
	Schema() (api.Schema, api.Errno)
	Read(path, name string, slab []api.Cut) (api.Array, api.Errno)
	Count(path, name string) (int, api.Errno)
	Data() ([]api.Data, api.Errno)
}

// whole returns the values of a variable as a text.
func whole(t *testing.T, x reader, path, name string) string {
	t.Helper()
	s, errno := x.Schema()
	checkErrno(t, "Schema", errno, api.OK)
	shape, errno := schema.Shape(s, path, name)
	checkErrno(t, "Shape", errno, api.OK)
	var slab []api.Cut
	for _, size := range shape {
		slab = append(slab, api.Cut{Count: size, Step: 1})
	}
	a, errno := x.Read(path, name, slab)
	checkErrno(t, "Read", errno, api.OK)
	if !slices.Equal(a.Shape, shape) {
		t.Errorf("Read: shape %v, want %v", a.Shape, shape)
	}
	return show(a)
}

func checkWhole(t *testing.T, title string, x reader, path, name, want string) {
	t.Helper()
	if got := whole(t, x, path, name); got != want {
		t.Errorf("%s: %s of %s is %q, want %q", title, name, path, got, want)
	}
}

func checkCount(t *testing.T, title string, x reader, path, name string, want int) {
	t.Helper()
	if got, errno := x.Count(path, name); got != want || errno != api.OK {
		t.Errorf("%s: count %d, want %d, error %d", title, got, want, errno)
	}
}

func checkGeneration(t *testing.T, title string, x reader, want int) {
	t.Helper()
	if got := x.Generation(); got != want {
		t.Errorf("%s: generation %d, want %d", title, got, want)
	}
}

// group, dim, vari, grow are changes.
func group(path string) api.Change {
	return api.Change{Kind: api.AddGroup, Path: path}
}

func dim(path, name string, size int) api.Change {
	return api.Change{Kind: api.AddDim, Path: path, Dim: api.Dim{Name: name, Size: size, Open: true}}
}

func vari(path string, v api.Var) api.Change {
	return api.Change{Kind: api.AddVar, Path: path, Var: v}
}

func grow(path, name string, size int) api.Change {
	return api.Change{Kind: api.Grow, Path: path, Name: name, Size: size}
}

// line returns a variable of i16 over t.
func line(name string, chunk int, fill string, stages ...api.Stage) api.Var {
	return api.Var{Name: name, Type: api.TypeI16, Dims: []string{"t"}, Chunks: []int{chunk}, Fill: fill, Stages: stages}
}

// rounding returns a stage.
func rounding(step string) api.Stage {
	return api.Stage{Kind: api.StageRound, Step: step}
}

// made returns an archive with the open dimension t of size 3 and the variable v over it, with the Fill -1 and chunks of 2; its generation is 2.
func made(t *testing.T, blocks, format int) (*store.Disk, *archive.Archive) {
	t.Helper()
	d := newDisk(t, blocks)
	a := create(t, d, format)
	do(t, a, func() {
		change(t, a, dim("/", "t", 3))
		change(t, a, vari("/", line("v", 2, "-1")))
	})
	return d, a
}

// someSlab returns a valid slab of a shape.
func someSlab(r *rand.Rand, shape []int) []api.Cut {
	slab := make([]api.Cut, len(shape))
	for k, size := range shape {
		c := api.Cut{Start: r.IntN(size + 1), Step: 1 + r.IntN(3)}
		if c.Start < size {
			c.Count = r.IntN((size-c.Start-1)/c.Step + 2)
		}
		slab[k] = c
	}
	return slab
}
