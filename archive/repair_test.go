package archive_test

import (
	"fmt"
	"slices"
	"strings"
	"testing"

	"arrayarchive/api"
	"arrayarchive/archive"
	"arrayarchive/schema"
	"arrayarchive/store"
)

// P9.7 and P9.14

// old returns an archive of format 1 with several variables, of generation 2.
func old(t *testing.T, blocks int) (*store.Disk, *archive.Archive) {
	t.Helper()
	d := newDisk(t, blocks)
	a := create(t, d, 1)
	do(t, a, func() {
		change(t, a, dim("/", "t", 3))
		change(t, a, group("/a"))
		change(t, a, vari("/a", line("v", 2, "-1")))
		change(t, a, vari("/", api.Var{Name: "n", Type: api.TypeNum, Dims: []string{"t"}, Chunks: []int{1}, Fill: "1/3"}))
		change(t, a, api.Change{Kind: api.SetAttr, Path: "/a", Name: "v", Attr: api.Attr{Name: "k", Kind: api.AttrNums, Nums: []string{"1", "2/3"}}})
		write(t, a, "/a", "v", "0:2:2", of("2", "4 5"))
		write(t, a, "/", "n", "1:1:1", of("1", "5/7"))
		checkErrno(t, "SetNote", a.SetNote("/", "n", []byte("note")), api.OK)
	})
	return d, a
}

// content returns all that an archive returns, but for the generation and the format.
func content(t *testing.T, a *archive.Archive) string {
	t.Helper()
	s, e1 := a.Schema()
	text, e2 := schema.Print(s)
	data, e3 := a.Data()
	if e1 != api.OK || e2 != api.OK || e3 != api.OK {
		t.Errorf("errors %d, %d, %d", e1, e2, e3)
	}
	for _, x := range data {
		n, e1 := a.Count(x.Path, x.Name)
		note, e2 := a.Note(x.Path, x.Name)
		if e1 != api.OK || e2 != api.OK {
			t.Errorf("errors %d, %d", e1, e2)
		}
		text += fmt.Sprintf("%s %s %d %q %v %s\n", x.Path, x.Name, n, note, x.A.Shape, show(x.A))
	}
	return text
}

func TestUpgrade(t *testing.T) {
	d, a := old(t, 60)
	before, stored := content(t, a), values(t, d)
	view, _ := a.View()
	checkErrno(t, "Upgrade", a.Upgrade(), api.OK)
	after := values(t, d)
	s, _ := a.Schema()
	want, _ := schema.Encode(s, 2)
	if after["schema"] != string(want) {
		t.Errorf("the schema is %q, want %q", after["schema"], want)
	}
	after["schema"] = stored["schema"]
	if fmt.Sprint(after) != fmt.Sprint(stored) {
		t.Errorf("the store has %q, want %q", after, stored)
	}
	for _, x := range []*archive.Archive{a, open(t, d.Copy())} {
		checkGeneration(t, "behind Upgrade", x, 3)
		if got := content(t, x); got != before || x.Format() != 2 {
			t.Errorf("behind Upgrade: format %d, %s, want %s", x.Format(), got, before)
		}
	}
	checkGeneration(t, "a view", view, 2)
	checkWhole(t, "a view", view, "/", "n", "1/3 5/7 1/3")
	checkErrno(t, "Upgrade again", a.Upgrade(), api.OK)
	checkGeneration(t, "behind Upgrade again", a, 3)
	begin(t, a)
	v := line("new", 2, "7", rounding("5"))
	v.Unit = "m"
	change(t, a, vari("/", v))
	write(t, a, "/a", "v", "1:1:1", of("1", "9"))
	commit(t, a)
	checkWhole(t, "behind Upgrade", a, "/", "new", "5 5 5")
	checkWhole(t, "behind Upgrade", a, "/a", "v", "4 9 5")
	checkState(t, "behind Upgrade", d, "3\n/ n 2 1 6e6f7465\n/ new 3 0 -\n/a v 1 2 -\n")
}

func TestUpgradeErrors(t *testing.T) {
	for format := 1; format <= 2; format++ {
		_, a := made(t, 60, format)
		begin(t, a)
		checkErrno(t, "Upgrade in a transaction", a.Upgrade(), api.ErrBusy)
		write(t, a, "/", "v", "0:1:1", of("1", "6"))
		commit(t, a)
		checkWhole(t, "behind Upgrade in a transaction", a, "/", "v", "6 -1 -1")
		if a.Format() != format {
			t.Errorf("format %d, want %d", a.Format(), format)
		}
	}
}

// Upgrade of an archive without room has no effect; it needs blocks for the schema, the state and the index.
func TestUpgradeFull(t *testing.T) {
	for blocks := 6; blocks < 10; blocks++ {
		d := newDisk(t, blocks)
		a := create(t, d, 1)
		want, format, generation := api.ErrFull, 1, 1
		if blocks >= 8 {
			want, format, generation = api.OK, 2, 2
		}
		for range 2 {
			checkErrno(t, fmt.Sprintf("Upgrade with %d blocks", blocks), a.Upgrade(), want)
			checkGeneration(t, "behind Upgrade", a, generation)
			checkErrno(t, "Abort", a.Abort(), api.ErrBusy)
			if a.Format() != format || open(t, d.Copy()).Format() != format {
				t.Errorf("with %d blocks: format %d, want %d", blocks, a.Format(), format)
			}
		}
		begin(t, a)
	}
}

// P9.8

func sameChunks(a, b []api.Chunk) bool {
	return slices.EqualFunc(a, b, func(x, y api.Chunk) bool {
		return x.Path == y.Path && x.Name == y.Name && slices.Equal(x.Index, y.Index)
	})
}

func checkDamaged(t *testing.T, name string, a *archive.Archive, want ...api.Chunk) {
	t.Helper()
	got, errno := a.Damaged()
	if !sameChunks(got, want) || errno != api.OK {
		t.Errorf("%s: damaged %v, error %d, want %v", name, got, errno, want)
	}
}

func TestRepair(t *testing.T) {
	d := newDisk(t, 300)
	a := create(t, d, 2)
	do(t, a, func() {
		change(t, a, dim("/", "x", 12))
		change(t, a, dim("/", "y", 3))
		change(t, a, group("/b"))
		change(t, a, group("/b/c"))
		change(t, a, group("/ba"))
		over := []string{"x", "y"}
		change(t, a, vari("/ba", api.Var{Name: "v", Type: api.TypeI16, Dims: over, Chunks: []int{1, 2}, Fill: "7", Stages: []api.Stage{rounding("2"), {Kind: api.StageDelta, N: 2}}}))
		change(t, a, vari("/b", api.Var{Name: "v", Type: api.TypeI16, Dims: over, Chunks: []int{1, 2}}))
		change(t, a, vari("/b/c", api.Var{Name: "v", Type: api.TypeI16, Dims: over, Chunks: []int{12, 3}}))
		change(t, a, vari("/b", api.Var{Name: "one", Type: api.TypeI16}))
		for _, path := range []string{"/ba", "/b", "/b/c"} {
			write(t, a, path, "v", "0:12:1 0:3:1", of("12 3", strings.Repeat("1 2 3 ", 12)))
			checkErrno(t, "SetNote", a.SetNote(path, "v", []byte(path)), api.OK)
		}
		write(t, a, "/b", "one", "", of("", "5"))
	})
	checkDamaged(t, "at first", a)
	l, errno := a.Repair()
	if len(l) > 0 || errno != api.OK {
		t.Errorf("Repair of nothing: %v, error %d", l, errno)
	}
	checkGeneration(t, "behind Repair of nothing", a, 2)
	for _, key := range []string{"1/2.0", "1/10.1", "1/2.1", "2/0.0", "4/"} {
		spoilValue(t, d, key)
		a = open(t, d)
		put(t, d, map[string][]byte{key: {1, 2, 3, 4}}) // so that spoilValue finds the next one alone
	}
	a = open(t, d)
	begin(t, a)
	l, errno = a.Repair()
	if l != nil || errno != api.ErrBusy {
		t.Errorf("Repair in a transaction: %v, error %d", l, errno)
	}
	checkErrno(t, "Abort", a.Abort(), api.OK)
	want := []api.Chunk{{Path: "/b", Name: "one", Index: nil}, {Path: "/b", Name: "v", Index: []int{0, 0}}, {Path: "/ba", Name: "v", Index: []int{2, 0}}, {Path: "/ba", Name: "v", Index: []int{2, 1}}, {Path: "/ba", Name: "v", Index: []int{10, 1}}}
	checkDamaged(t, "spoilt", a, want...)
	view, _ := a.View()
	n := a.Generation()
	l, errno = a.Repair()
	if !sameChunks(l, want) || errno != api.OK {
		t.Errorf("Repair: %v, error %d, want %v", l, errno, want)
	}
	for _, x := range []*archive.Archive{a, open(t, d.Copy())} {
		checkGeneration(t, "behind Repair", x, n+1)
		checkDamaged(t, "behind Repair", x)
		checkWhole(t, "behind Repair", x, "/b", "v", "_ _ 3 "+strings.TrimSpace(strings.Repeat("1 2 3 ", 11)))
		checkWhole(t, "behind Repair", x, "/ba", "v", "2 2 4 2 2 4 8 8 8 "+strings.Repeat("2 2 4 ", 7)+"2 2 8 2 2 4")
		checkWhole(t, "behind Repair", x, "/b", "one", "_")
		checkCount(t, "behind Repair", x, "/b", "v", 2)
		checkCount(t, "behind Repair", x, "/ba", "v", 2)
		checkCount(t, "behind Repair", x, "/b/c", "v", 1)
		if note, errno := x.Note("/ba", "v"); string(note) != "/ba" || errno != api.OK {
			t.Errorf("behind Repair: note %q, error %d", note, errno)
		}
	}
	if _, errno := view.Read("/b", "v", cuts("0:1:1 0:1:1")); errno != api.ErrStore {
		t.Errorf("a view before Repair: error %d", errno)
	}
	if v := values(t, d); len(v) != 24+24+1-4+2 {
		t.Errorf("behind Repair: %d keys", len(v))
	}
	do(t, a, func() { write(t, a, "/ba", "v", "2:1:1 1:1:1", of("1 1", "-8")) })
	if x, errno := a.Read("/ba", "v", cuts("2:1:1 0:3:1")); show(x) != "8 -8 8" || errno != api.OK {
		t.Errorf("a write behind Repair: %v, error %d", x, errno)
	}
}

// Repair without room has no effect; it needs blocks for the schema, the state and the index.
func TestRepairFull(t *testing.T) {
	d := newDisk(t, 9)
	a := create(t, d, 2)
	do(t, a, func() {
		change(t, a, vari("/", api.Var{Name: "v", Type: api.TypeI8}))
		write(t, a, "/", "v", "", of("", "1"))
	})
	view, errno := a.View()
	checkErrno(t, "View", errno, api.OK)
	do(t, a, func() {})
	spoilValue(t, d, "1/")
	for range 2 {
		l, errno := a.Repair()
		if l != nil || errno != api.ErrFull {
			t.Errorf("Repair without room: %v, error %d", l, errno)
		}
		checkGeneration(t, "Repair without room", a, 3)
		checkDamaged(t, "Repair without room", a, api.Chunk{Path: "/", Name: "v"})
		checkErrno(t, "Abort", a.Abort(), api.ErrBusy)
	}
	checkErrno(t, "Release", view.Release(), api.OK)
	l, errno := a.Repair()
	if len(l) != 1 || errno != api.OK {
		t.Errorf("Repair with room: %v, error %d", l, errno)
	}
	checkState(t, "behind Repair", d, "1\n/ v 1 2 -\n")
}

// Repair whose count would make the state too long has no effect.
func TestRepairOfStateOfMostBytes(t *testing.T) {
	d := newDisk(t, 1024)
	a := create(t, d, 2)
	do(t, a, func() {
		checkErrno(t, "SetNote", a.SetNote("/", "v16", make([]byte, tall(t, a))), api.OK)
	})
	for range 9 {
		do(t, a, func() { write(t, a, "/", "v00", "", of("", "1")) })
	}
	begin(t, a)
	write(t, a, "/", "v00", "", of("", "1"))
	checkErrno(t, "Commit", a.Commit(), api.ErrLimit)
	put(t, d, map[string][]byte{"1/": {1}})
	a = open(t, d)
	l, errno := a.Repair()
	if l != nil || errno != api.ErrLimit {
		t.Errorf("Repair: %v, error %d", l, errno)
	}
	checkCount(t, "behind Repair", a, "/", "v00", 9)
	checkDamaged(t, "behind Repair", a, api.Chunk{Path: "/", Name: "v00"})
	do(t, a, func() { checkErrno(t, "SetNote", a.SetNote("/", "v16", nil), api.OK) })
	if l, errno = a.Repair(); len(l) != 1 || errno != api.OK {
		t.Errorf("Repair of a shorter state: %v, error %d", l, errno)
	}
	checkCount(t, "behind Repair", a, "/", "v00", 10)
}

// P9.15

// spoilt calls try with copies of a disk of which one byte has been changed.
func spoilt(t *testing.T, d *store.Disk, by byte, try func(c *store.Disk)) {
	t.Helper()
	for i := range d.Blocks() {
		for at := i % 3; at < api.MaxBlock; at += 3 {
			c := d.Copy()
			checkErrno(t, "Spoil", c.Spoil(i, at, by), api.OK)
			try(c)
		}
	}
}

// elements returns the elements of a variable one by one, with an x for each that cannot be read.
func elements(t *testing.T, a *archive.Archive, path, name string, n int) []string {
	t.Helper()
	var l []string
	for i := range n {
		x, errno := a.Read(path, name, []api.Cut{{Start: i, Count: 1, Step: 1}})
		switch errno {
		case api.OK:
			l = append(l, show(x))
		case api.ErrStore:
			l = append(l, "x")
		default:
			t.Fatalf("Read: error %d", errno)
		}
	}
	return l
}

func TestSpoilt(t *testing.T) {
	d := newDisk(t, 30)
	a := create(t, d, 2)
	do(t, a, func() {
		change(t, a, dim("/", "t", 5))
		change(t, a, vari("/", line("v", 2, "-1")))
		write(t, a, "/", "v", "0:5:1", of("5", "1 2 3 4 5"))
	})
	do(t, a, func() { write(t, a, "/", "v", "2:3:1", of("3", "6 7 8")) })
	was, is := []string{"1", "2", "3", "4", "5"}, []string{"1", "2", "6", "7", "8"}
	found := map[string]int{}
	for _, by := range []byte{1, 128, 255} {
		spoilt(t, d, by, func(c *store.Disk) {
			b, errno := archive.Open(c)
			if errno != api.OK {
				checkErrno(t, "Open", errno, api.ErrStore)
				found["none"]++
				return
			}
			want := is
			if b.Generation() == 2 {
				want = was
				found["before"]++
			}
			bad := map[int]bool{}
			for i, x := range elements(t, b, "/", "v", 5) {
				if x != want[i] && x != "x" {
					t.Errorf("element %d is %s, want %s", i, x, want[i])
				}
				bad[i/2] = bad[i/2] || x == "x"
			}
			l, errno := b.Repair()
			checkErrno(t, "Repair", errno, api.OK)
			for i, x := range elements(t, b, "/", "v", 5) {
				if bad[i/2] && x != "-1" || !bad[i/2] && x != want[i] {
					t.Errorf("behind Repair: element %d is %s", i, x)
				}
			}
			for k := range 3 {
				if bad[k] != slices.ContainsFunc(l, func(c api.Chunk) bool { return c.Index[0] == k }) {
					t.Errorf("Repair of %v, want %v", l, bad)
				}
			}
			checkDamaged(t, "behind Repair", b)
			found[fmt.Sprint("chunks ", len(l))]++
		})
	}
	if found["none"] == 0 || found["before"] == 0 || found["chunks 1"] == 0 || found["chunks 0"] == 0 || found["chunks 2"] > 0 {
		t.Errorf("what was found: %v", found)
	}
}

// An open archive goes on, whatever byte is changed.
func TestSpoiltOpen(t *testing.T) {
	d, a := made(t, 30, 2)
	do(t, a, func() { write(t, a, "/", "v", "0:3:1", of("3", "1 2 3")) })
	view, _ := a.View()
	damaged := 0
	for i := range d.Blocks() {
		for at := range api.MaxBlock {
			checkErrno(t, "Spoil", d.Spoil(i, at, 16), api.OK)
			l, errno := a.Damaged()
			checkErrno(t, "Damaged", errno, api.OK)
			damaged += len(l)
			want := []string{"1", "2", "3"}
			for _, c := range l {
				for k := 2 * c.Index[0]; k < min(3, 2*c.Index[0]+2); k++ {
					want[k] = "x"
				}
			}
			if got := elements(t, a, "/", "v", 3); !slices.Equal(got, want) {
				t.Errorf("with a byte changed: %v, want %v", got, want)
			}
			checkErrno(t, "Spoil back", d.Spoil(i, at, 16), api.OK)
		}
	}
	if damaged != 2*api.MaxBlock {
		t.Errorf("%d damaged chunks", damaged)
	}
	checkWhole(t, "a view", view, "/", "v", "1 2 3")
}
