package archive_test

import (
	"fmt"
	"slices"
	"strings"
	"testing"

	"arrayarchive/api"
	"arrayarchive/archive"
	"arrayarchive/schema"
	"arrayarchive/store"
)

// P9.5

// numbers returns n values of TypeNum whose texts have so many bytes in all.
func numbers(n, bytes int) string {
	words := make([]string, n)
	for i := range words {
		size := bytes / n
		if i < bytes%n {
			size++
		}
		words[i] = strings.Repeat("3", size-32) + "/1" + strings.Repeat("0", 30)
	}
	return strings.Join(words, " ")
}

func TestChunkOfMostBytes(t *testing.T) {
	d := newDisk(t, 1024)
	a := create(t, d, 2)
	begin(t, a)
	change(t, a, dim("/", "t", 1024))
	change(t, a, dim("/", "u", 4))
	over := func(name, fill string, dims []string, chunks []int, stages ...api.Stage) {
		change(t, a, vari("/", api.Var{Name: name, Type: api.TypeNum, Dims: dims, Chunks: chunks, Fill: fill, Stages: stages}))
	}
	long := "1/1" + strings.Repeat("0", 39)
	over("plain", "", []string{"t"}, []int{1024})
	over("packed", "", []string{"t"}, []int{1024}, api.Stage{Kind: api.StageDict})
	over("beyond", long, []string{"t", "u"}, []int{512, 8})
	const most = 1<<16 - 4 - 128 - 1024 // less the checksum, a bit for each value, and a byte for each length
	checkErrno(t, "Write of one byte too many", a.Write("/", "plain", cuts("0:1024:1"), of("1024", numbers(1024, most+1))), api.ErrLimit)
	write(t, a, "/", "plain", "0:1024:1", of("1024", numbers(1024, most)))
	checkErrno(t, "Write of an element with one byte more", a.Write("/", "plain", cuts("1023:1:1"), of("1", numbers(1, most/1024+1))), api.ErrLimit)
	write(t, a, "/", "packed", "0:1024:1", of("1024", numbers(1024, most+1)))
	// Elements that a Write does not touch, and those beyond the shape, count.
	checkErrno(t, "Write beside a long fill", a.Write("/", "beyond", cuts("0:1:1 0:1:1"), of("1 1", "1")), api.ErrLimit)
	write(t, a, "/", "beyond", "0:0:1 0:1:1", of("0 1", ""))
	commit(t, a)
	checkKeys(t, "behind the commit", d, "1/0", "2/0")
	if n := len(values(t, d)["1/0"]); n != 1<<16 {
		t.Errorf("the chunk has %d bytes", n)
	}
}

// many returns an archive with the variable v over t of size 600, in chunks of 1, and w over it in one chunk.
func many(t *testing.T) (*store.Disk, *archive.Archive) {
	t.Helper()
	d := newDisk(t, 1024)
	a := create(t, d, 2)
	do(t, a, func() {
		change(t, a, dim("/", "t", 600))
		change(t, a, vari("/", api.Var{Name: "v", Type: api.TypeI8, Dims: []string{"t"}, Chunks: []int{1}}))
		change(t, a, vari("/", api.Var{Name: "w", Type: api.TypeI8, Dims: []string{"t"}, Chunks: []int{600}}))
	})
	return d, a
}

func ones(n int) api.Array {
	return of(fmt.Sprint(n), strings.Repeat("1 ", n))
}

func TestMostKeys(t *testing.T) {
	d, a := many(t)
	begin(t, a)
	checkErrno(t, "511 chunks", a.Write("/", "v", cuts("0:511:1"), ones(511)), api.ErrLimit)
	write(t, a, "/", "v", "0:510:1", ones(510))
	checkErrno(t, "one more", a.Write("/", "v", cuts("510:1:1"), ones(1)), api.ErrLimit)
	checkErrno(t, "one more of another variable", a.Write("/", "w", cuts("0:1:1"), ones(1)), api.ErrLimit)
	write(t, a, "/", "v", "100:100:2", ones(100))
	write(t, a, "/", "w", "0:0:1", of("0", ""))
	commit(t, a)
	if n := len(values(t, d)); n != 512 {
		t.Errorf("%d keys", n)
	}
	begin(t, a)
	checkErrno(t, "one more behind the commit", a.Write("/", "v", cuts("599:1:1"), ones(1)), api.ErrLimit)
	checkErrno(t, "one more and one that is there", a.Write("/", "v", cuts("509:2:1"), ones(2)), api.ErrLimit)
	write(t, a, "/", "v", "509:1:1", of("1", "7"))
	change(t, a, api.Change{Kind: api.DropVar, Path: "/", Name: "v"})
	write(t, a, "/", "w", "0:600:1", ones(600))
	change(t, a, vari("/", api.Var{Name: "v", Type: api.TypeI8, Dims: []string{"t"}, Chunks: []int{1}}))
	write(t, a, "/", "v", "0:509:1", ones(509))
	checkErrno(t, "one more behind a DropVar", a.Write("/", "v", cuts("509:1:1"), ones(1)), api.ErrLimit)
	change(t, a, api.Change{Kind: api.DropVar, Path: "/", Name: "w"})
	write(t, a, "/", "v", "509:1:1", ones(1))
	checkErrno(t, "Commit", a.Commit(), api.ErrFull)
	change(t, a, api.Change{Kind: api.DropVar, Path: "/", Name: "v"})
	commit(t, a)
	checkKeys(t, "without variables", d)
}

func TestWriteStoreBeforeLimit(t *testing.T) {
	d, a := many(t)
	do(t, a, func() { write(t, a, "/", "v", "0:510:1", ones(510)) })
	// A byte of a chunk becomes another one.
	put(t, d, map[string][]byte{"1/509": {1, 2, 3, 4, 5}})
	a = open(t, d)
	begin(t, a)
	checkErrno(t, "Write", a.Write("/", "v", cuts("509:2:1"), ones(2)), api.ErrStore)
	checkErrno(t, "Write", a.Write("/", "v", cuts("508:3:2"), ones(3)), api.ErrLimit)
	checkErrno(t, "SetNote", a.SetNote("/", "v", make([]byte, 2000)), api.OK)
	checkErrno(t, "SetNote", a.SetNote("/", "v", make([]byte, 2001)), api.ErrLimit)
	checkErrno(t, "SetNote", a.SetNote("/", "x", make([]byte, 2001)), api.ErrNone)
}

func TestSetNote(t *testing.T) {
	d, a := made(t, 60, 2)
	var all []byte
	for i := range 256 {
		all = append(all, byte(i))
	}
	for _, note := range [][]byte{{0}, all, []byte("-"), make([]byte, 2000), {}, nil, []byte("last")} {
		begin(t, a)
		checkErrno(t, "SetNote", a.SetNote("/", "v", []byte("first")), api.OK)
		checkErrno(t, "SetNote", a.SetNote("/", "v", note), api.OK)
		checkErrno(t, "SetNote", a.SetNote("/", "v", make([]byte, 2001)), api.ErrLimit)
		commit(t, a)
		text := fmt.Sprintf("%x", note)
		if len(note) == 0 {
			text = "-"
		}
		checkState(t, "with a note", d, "1\n/ v 1 0 "+text+"\n")
		for _, x := range []*archive.Archive{a, open(t, d.Copy())} {
			if got, errno := x.Note("/", "v"); !slices.Equal(got, note) || errno != api.OK {
				t.Errorf("Note: %q, error %d, want %q", got, errno, note)
			}
		}
	}
	begin(t, a)
	for _, n := range noNames() {
		checkErrno(t, "SetNote of no variable", a.SetNote(n[0], n[1], nil), api.ErrNone)
	}
}

// P9.6

// tall adds 17 variables to an open transaction, 16 of them with the longest notes, so that with a note of n bytes of the last one the state has exactly MaxBytes bytes.
func tall(t *testing.T, a *archive.Archive) (n int) {
	t.Helper()
	size := len("17\n")
	for i := range 17 {
		name := fmt.Sprintf("v%02d", i)
		change(t, a, vari("/", api.Var{Name: name, Type: api.TypeI8}))
		size += len(fmt.Sprintf("/ %s %d 0 \n", name, i+1))
		if i < 16 {
			checkErrno(t, "SetNote", a.SetNote("/", name, make([]byte, 2000)), api.OK)
			size += 4000
		}
	}
	if (1<<16-size)%2 != 0 {
		t.Fatal("the parity of the state is wrong")
	}
	return (1<<16 - size) / 2
}

func TestStateOfMostBytes(t *testing.T) {
	for _, blocks := range []int{1024, 8} { // ErrLimit is ahead of ErrFull
		d := newDisk(t, blocks)
		a := create(t, d, 2)
		begin(t, a)
		n := tall(t, a)
		for range 2 {
			checkErrno(t, "SetNote", a.SetNote("/", "v16", make([]byte, n+1)), api.OK)
			checkErrno(t, "Commit", a.Commit(), api.ErrLimit)
			checkErrno(t, "Begin", a.Begin(), api.ErrBusy)
			checkGeneration(t, "behind ErrLimit", a, 1)
		}
		checkErrno(t, "SetNote", a.SetNote("/", "v16", make([]byte, n)), api.OK)
		if blocks < 1024 {
			checkErrno(t, "Commit", a.Commit(), api.ErrFull)
			checkErrno(t, "Abort", a.Abort(), api.OK)
			continue
		}
		commit(t, a)
		if n := len(values(t, d)["state"]); n != 1<<16 {
			t.Errorf("the state has %d bytes", n)
		}
		if note, errno := open(t, d).Note("/", "v16"); len(note) != n || errno != api.OK {
			t.Errorf("Note: %d bytes, error %d", len(note), errno)
		}
	}
}

// wide adds groups and attributes to an open transaction, so that the encoding of its schema in a format has exactly MaxBytes bytes and so many more.
func wide(t *testing.T, a *archive.Archive, format, more int) {
	t.Helper()
	s := schema.Empty()
	size := func() int {
		b, errno := schema.Encode(s, format)
		checkErrno(t, "Encode", errno, api.OK)
		return len(b)
	}
	add := func(c api.Change) {
		t.Helper()
		change(t, a, c)
		next, errno := schema.Apply(s, c)
		checkErrno(t, "Apply", errno, api.OK)
		s = next
	}
	for v := 0; ; v++ {
		name := fmt.Sprintf("v%02d", v)
		add(vari("/", api.Var{Name: name, Type: api.TypeI8}))
		for i := range 16 {
			// An attribute has a name, a kind and a text, each text with its length.
			room := 1<<16 + more - size()
			text := 190
			if room <= 450 {
				text = 100
			}
			if room <= 250 {
				text = room/2 - 6
			}
			if room <= 125 {
				text = room - 6
			}
			add(api.Change{Kind: api.SetAttr, Path: "/", Name: name, Attr: api.Attr{Name: fmt.Sprintf("a%02d", i), Kind: api.AttrText, Text: strings.Repeat("x", text)}})
			if size() >= 1<<16+more {
				if size() != 1<<16+more {
					t.Fatalf("the schema has %d bytes, not %d", size(), 1<<16+more)
				}
				return
			}
		}
	}
}

func TestSchemaOfMostBytes(t *testing.T) {
	for format := 1; format <= 2; format++ {
		d := newDisk(t, 1024)
		a := create(t, d, format)
		begin(t, a)
		wide(t, a, format, 1)
		checkErrno(t, "Commit", a.Commit(), api.ErrLimit)
		checkErrno(t, "Abort", a.Abort(), api.OK)
		begin(t, a)
		wide(t, a, format, 0)
		commit(t, a)
		if n := len(values(t, d)["schema"]); n != 1<<16 {
			t.Errorf("the schema has %d bytes", n)
		}
		want := api.ErrLimit // the new format needs more
		if format == 2 {
			want = api.OK
		}
		checkErrno(t, "Upgrade", a.Upgrade(), want)
		checkGeneration(t, "behind it", a, 2)
		if a.Format() != format {
			t.Errorf("format %d, want %d", a.Format(), format)
		}
		checkErrno(t, "Commit behind it", a.Commit(), api.ErrBusy)
		begin(t, a)
	}
}

// needs returns how many blocks a commit of keys with values of so many bytes needs, if the state has these keys alone.
func needs(sizes map[string]int, put ...string) int {
	index, blocks := 0, 0
	for key, size := range sizes {
		n := (size + 239) / 240
		index += 8 + len(key) + 2*n
		if slices.Contains(put, key) {
			blocks += n
		}
	}
	return blocks + max(1, (index+239)/240)
}

func sizesOf(v map[string]string) map[string]int {
	out := map[string]int{}
	for key, b := range v {
		out[key] = len(b)
	}
	return out
}

// A commit puts the schema, the state, and the chunks that were written, and nothing else.
func TestFull(t *testing.T) {
	for blocks := 12; blocks < 40; blocks++ {
		d := newDisk(t, blocks)
		a := create(t, d, 2)
		begin(t, a)
		change(t, a, dim("/", "t", 400))
		change(t, a, vari("/", line("v", 150, "1"))) // chunks of 323 bytes, 2 blocks
		checkErrno(t, "Commit", a.Commit(), api.OK)
		for _, slab := range []string{"0:400:1", "0:400:1", "0:0:1", "151:1:1", "149:2:1", "399:1:1", "0:2:300"} {
			c := cuts(slab)
			begin(t, a)
			write(t, a, "/", "v", slab, ones(c[0].Count))
			sizes := sizesOf(values(t, d))
			puts := []string{"schema", "state"}
			for i := range c[0].Count {
				key := fmt.Sprintf("1/%d", (c[0].Start+i*c[0].Step)/150)
				sizes[key] = 323
				puts = append(puts, key)
			}
			free, count := openStore(t, d).Free(), counted(t, a)
			if needs(sizes, puts...) <= free {
				commit(t, a)
				checkCount(t, "behind a commit", a, "/", "v", count+1)
				continue
			}
			for range 2 {
				checkErrno(t, fmt.Sprintf("Commit of %s with %d of %d blocks", slab, free, blocks), a.Commit(), api.ErrFull)
				checkErrno(t, "Begin", a.Begin(), api.ErrBusy)
				checkCount(t, "behind ErrFull", a, "/", "v", count)
			}
			checkErrno(t, "Abort", a.Abort(), api.OK)
		}
	}
}

func counted(t *testing.T, a *archive.Archive) int {
	t.Helper()
	n, errno := a.Count("/", "v")
	checkErrno(t, "Count", errno, api.OK)
	return n
}

// A transaction goes on behind ErrFull, and its counts become greater once.
func TestCommitBehindFull(t *testing.T) {
	d := newDisk(t, 20)
	a := create(t, d, 2)
	do(t, a, func() {
		change(t, a, dim("/", "t", 1000))
		change(t, a, vari("/", line("v", 1000, "1")))
		change(t, a, vari("/", line("w", 5, "2")))
	})
	view, _ := a.View()
	begin(t, a)
	write(t, a, "/", "v", "0:1000:1", ones(1000))
	write(t, a, "/", "w", "0:20:1", ones(20))
	change(t, a, vari("/", line("x", 1, "3")))
	for range 3 {
		checkErrno(t, "Commit", a.Commit(), api.ErrFull)
		checkErrno(t, "Write", a.Write("/", "w", cuts("0:1:1"), of("1", "5")), api.OK)
	}
	change(t, a, api.Change{Kind: api.DropVar, Path: "/", Name: "v"})
	checkErrno(t, "Commit", a.Commit(), api.OK)
	checkState(t, "behind Commit", d, "3\n/ w 2 1 -\n/ x 3 0 -\n")
	checkKeys(t, "behind Commit", d, "2/0", "2/1", "2/2", "2/3")
	if x, errno := a.Read("/", "w", cuts("0:3:1")); show(x) != "5 1 1" || errno != api.OK {
		t.Errorf("behind Commit: %v, error %d", x, errno)
	}
	checkErrno(t, "Release", view.Release(), api.OK)
}

// A commit of nothing makes a generation, too.
func TestCommitOfNothing(t *testing.T) {
	d, a := made(t, 60, 2)
	do(t, a, func() { write(t, a, "/", "v", "0:3:1", of("3", "1 2 3")) })
	before := values(t, d)
	for i := range 5 {
		do(t, a, func() {})
		checkGeneration(t, "a commit of nothing", a, 4+i)
	}
	if after := values(t, d); fmt.Sprint(after) != fmt.Sprint(before) {
		t.Errorf("commits of nothing: %q, want %q", after, before)
	}
}
