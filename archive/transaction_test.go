package archive_test

import (
	"fmt"
	"math"
	"slices"
	"strings"
	"testing"

	"arrayarchive/api"
	"arrayarchive/codec"
)

// P9.3

func TestBeginAndAbort(t *testing.T) {
	d, a := made(t, 60, 2)
	before := values(t, d)
	for _, calls := range []struct {
		name string
		call func() api.Errno
	}{
		{"Abort", a.Abort}, {"Commit", a.Commit},
		{"Change", func() api.Errno { return a.Change(api.Change{}) }},
		{"Write", func() api.Errno { return a.Write("", "", nil, api.Array{Shape: []int{-1}}) }},
		{"SetNote", func() api.Errno { return a.SetNote("", "", make([]byte, 2001)) }},
	} {
		checkErrno(t, calls.name+" without a transaction", calls.call(), api.ErrBusy)
	}
	begin(t, a)
	checkErrno(t, "Begin again", a.Begin(), api.ErrBusy)
	write(t, a, "/", "v", "0:3:1", of("3", "1 2 3"))
	change(t, a, vari("/", line("w", 1, "0")))
	write(t, a, "/", "w", "0:3:1", of("3", "1 2 3"))
	checkErrno(t, "SetNote", a.SetNote("/", "v", []byte("note")), api.OK)
	checkErrno(t, "Abort", a.Abort(), api.OK)
	checkErrno(t, "Abort again", a.Abort(), api.ErrBusy)
	checkGeneration(t, "behind Abort", a, 2)
	if after := values(t, d); fmt.Sprint(after) != fmt.Sprint(before) {
		t.Errorf("behind Abort: %q, want %q", after, before)
	}
	// What was aborted has given no id, and is not there in the next transaction.
	begin(t, a)
	checkErrno(t, "Write of what was aborted", a.Write("/", "w", cuts("0:1:1"), of("1", "1")), api.ErrNone)
	change(t, a, vari("/", line("x", 3, "0")))
	write(t, a, "/", "v", "2:1:1", of("1", "8"))
	commit(t, a)
	checkState(t, "behind the next transaction", d, "2\n/ v 1 1 -\n/ x 2 0 -\n")
	checkKeys(t, "behind the next transaction", d, "1/1")
	checkWhole(t, "behind the next transaction", a, "/", "v", "-1 -1 8")
}

// P9.4

func TestChangesOfVariables(t *testing.T) {
	d, a := nested(t)
	checkState(t, "at first", d, "3\n/ one 3 0 -\n/a none 2 0 -\n/a square 1 1 -\n")
	do(t, a, func() {
		checkErrno(t, "SetNote", a.SetNote("/a", "square", []byte("ab")), api.OK)
		change(t, a, api.Change{Kind: api.NameVar, Path: "/a", Name: "square", New: "b"})
		change(t, a, api.Change{Kind: api.NameDim, Path: "/", Name: "x", New: "xx"})
		change(t, a, api.Change{Kind: api.SetAttr, Path: "/a", Name: "b", Attr: api.Attr{Name: "k", Kind: api.AttrText, Text: "text"}})
	})
	checkState(t, "with other names", d, "3\n/ one 3 0 -\n/a b 1 1 6162\n/a none 2 0 -\n")
	checkKeys(t, "with other names", d, "1/0.0", "1/0.1")
	checkWhole(t, "with other names", a, "/a", "b", "1 2 3 4 5/7 _")
	do(t, a, func() {
		change(t, a, api.Change{Kind: api.DropVar, Path: "/a", Name: "b"})
		change(t, a, vari("/a", api.Var{Name: "b", Type: api.TypeI8, Dims: []string{"xx", "y"}, Chunks: []int{2, 2}}))
		change(t, a, vari("/", api.Var{Name: "temp", Type: api.TypeI8}))
		write(t, a, "/", "temp", "", of("", "1"))
		change(t, a, api.Change{Kind: api.DropVar, Path: "/", Name: "temp"})
		write(t, a, "/", "one", "", of("", "77"))
	})
	checkState(t, "with a new variable in place of one", d, "5\n/ one 3 1 -\n/a b 4 0 -\n/a none 2 0 -\n")
	checkKeys(t, "with a new variable in place of one", d, "3/")
	checkWhole(t, "with a new variable in place of one", a, "/a", "b", "_ _ _ _ _ _")
	checkWhole(t, "with a new variable in place of one", a, "/", "one", "77")
	do(t, a, func() {
		write(t, a, "/a", "b", "0:1:1 0:1:1", of("1 1", "5"))
		change(t, a, api.Change{Kind: api.NameVar, Path: "/a", Name: "b", New: "c"})
		write(t, a, "/a", "c", "1:1:1 2:1:1", of("1 1", "6"))
		change(t, a, vari("/a", api.Var{Name: "b", Type: api.TypeI8, Dims: []string{"xx", "y"}, Chunks: []int{2, 2}}))
	})
	checkState(t, "with a name that is given again", d, "6\n/ one 3 1 -\n/a b 6 0 -\n/a c 4 1 -\n/a none 2 0 -\n")
	checkWhole(t, "with a name that is given again", open(t, d), "/a", "c", "5 _ _ _ _ 6")
}

// A variable whose chunks were there, and are written again, and that is dropped then.
func TestDropOfWritten(t *testing.T) {
	d, a := made(t, 60, 2)
	do(t, a, func() {
		change(t, a, vari("/", line("w", 1, "0")))
		write(t, a, "/", "v", "0:1:1", of("1", "1"))
		write(t, a, "/", "w", "0:3:1", of("3", "4 5 6"))
	})
	checkKeys(t, "at first", d, "1/0", "2/0", "2/1", "2/2")
	do(t, a, func() {
		write(t, a, "/", "v", "0:3:1", of("3", "7 8 9"))
		write(t, a, "/", "w", "1:1:1", of("1", "9"))
		change(t, a, api.Change{Kind: api.DropVar, Path: "/", Name: "v"})
		change(t, a, vari("/", line("v", 2, "-2")))
	})
	checkKeys(t, "without v", d, "2/0", "2/1", "2/2")
	checkWhole(t, "without v", a, "/", "v", "-2 -2 -2")
	checkWhole(t, "without v", a, "/", "w", "4 9 6")
	checkState(t, "without v", d, "3\n/ v 3 0 -\n/ w 2 2 -\n")
}

// The ids 1 and 10 begin with the same digit.
func TestDropBesideLongerIds(t *testing.T) {
	d := newDisk(t, 200)
	a := create(t, d, 2)
	do(t, a, func() {
		for i := range 12 {
			name := fmt.Sprintf("v%d", i+1)
			change(t, a, vari("/", api.Var{Name: name, Type: api.TypeI8}))
			write(t, a, "/", name, "", of("", fmt.Sprint(i)))
		}
	})
	do(t, a, func() {
		write(t, a, "/", "v11", "", of("", "5"))
		change(t, a, api.Change{Kind: api.DropVar, Path: "/", Name: "v1"})
	})
	checkKeys(t, "without the first one", d, "10/", "11/", "12/", "2/", "3/", "4/", "5/", "6/", "7/", "8/", "9/")
	checkWhole(t, "without the first one", a, "/", "v10", "9")
	checkWhole(t, "without the first one", a, "/", "v11", "5")
}

func TestGrow(t *testing.T) {
	for _, chunk := range []int{1, 2, 3, 4, 7} {
		d := newDisk(t, 100)
		a := create(t, d, 2)
		do(t, a, func() {
			change(t, a, dim("/", "t", 3))
			change(t, a, dim("/", "x", 2))
			v := line("v", chunk, "7", rounding("5"))
			v.Dims, v.Chunks = []string{"t", "x"}, []int{chunk, 3}
			change(t, a, vari("/", v))
			change(t, a, vari("/", line("u", 2, "0")))
			write(t, a, "/", "v", "1:2:1 0:2:1", of("2 2", "11 12 13 _"))
		})
		checkWhole(t, "at first", a, "/", "v", "5 5 10 10 15 _")
		do(t, a, func() {
			change(t, a, grow("/", "x", 2))
			change(t, a, grow("/", "t", 0))
		})
		checkWhole(t, "with a longer x", a, "/", "v", "5 5 5 5 10 10 5 5 15 _ 5 5")
		checkCount(t, "with a longer x", a, "/", "v", 2)
		checkCount(t, "with a longer x", a, "/", "u", 0)
		do(t, a, func() {
			change(t, a, grow("/", "t", 1))
			write(t, a, "/", "v", "3:1:1 3:1:1", of("1 1", "-20"))
			change(t, a, grow("/", "t", 1))
		})
		checkWhole(t, "with a longer t", open(t, d.Copy()), "/", "v", "5 5 5 5 10 10 5 5 15 _ 5 5 5 5 5 -20 5 5 5 5")
		checkCount(t, "with a longer t", a, "/", "v", 3)
		checkCount(t, "with a longer t", a, "/", "u", 1)
		checkWhole(t, "with a longer t", a, "/", "u", "0 0 0 0 0")
	}
}

// The count becomes greater once for each commit of a transaction that wrote, or changed the shape.
func TestCounts(t *testing.T) {
	_, a := made(t, 60, 2)
	change := func(c api.Change) func() { return func() { change(t, a, c) } }
	write := func(slab, shape, vals string) func() {
		return func() { write(t, a, "/", "v", slab, of(shape, vals)) }
	}
	note := func() { checkErrno(t, "SetNote", a.SetNote("/", "v", []byte("x")), api.OK) }
	count := 0
	for _, c := range []struct {
		name  string
		more  int
		calls []func()
	}{
		{"nothing", 0, nil}, {"a write", 1, []func(){write("0:1:1", "1", "4")}}, {"the same values", 1, []func(){write("0:1:1", "1", "4")}}, {"two writes", 1, []func(){write("0:1:1", "1", "4"), write("1:1:1", "1", "5")}},
		{"a write of nothing", 1, []func(){write("3:0:1", "0", "")}}, {"a note", 0, []func(){note}}, {"grown by 0", 0, []func(){change(grow("/", "t", 0))}}, {"grown", 1, []func(){change(grow("/", "t", 1))}},
		{"grown and written", 1, []func(){change(grow("/", "t", 1)), write("4:1:1", "1", "5"), change(grow("/", "t", 1)), note}},
		{"a name", 0, []func(){change(api.Change{Kind: api.NameDim, Path: "/", Name: "t", New: "s"}), change(api.Change{Kind: api.NameDim, Path: "/", Name: "s", New: "t"})}},
		{"an attribute", 0, []func(){change(api.Change{Kind: api.SetAttr, Path: "/", Name: "v", Attr: api.Attr{Name: "a", Kind: api.AttrText}})}},
		{"another dimension", 0, []func(){change(dim("/", "u", 2)), change(grow("/", "u", 2)), change(group("/a")), change(dim("/a", "t", 2)), change(grow("/a", "t", 3))}},
		{"errors", 0, []func(){
			func() {
				checkErrno(t, "Write", a.Write("/", "v", cuts("0:1:1"), of("1", "99999")), api.ErrValue)
				checkErrno(t, "Grow", a.Change(grow("/", "t", 2000)), api.ErrLimit)
			},
		}},
	} {
		do(t, a, func() {
			for _, call := range c.calls {
				call()
			}
		})
		count += c.more
		checkCount(t, c.name, a, "/", "v", count)
	}
}

// A variable has no shape when the transaction that adds it begins.
func TestCountsOfAdded(t *testing.T) {
	d, a := made(t, 60, 2)
	do(t, a, func() {
		change(t, a, vari("/", line("alone", 2, "0")))
		change(t, a, vari("/", line("written", 2, "0")))
		write(t, a, "/", "written", "0:1:1", of("1", "1"))
	})
	checkState(t, "added", d, "3\n/ alone 2 0 -\n/ v 1 0 -\n/ written 3 1 -\n")
	do(t, a, func() {
		change(t, a, vari("/", line("long", 2, "0")))
		change(t, a, grow("/", "t", 1))
		change(t, a, vari("/", line("more", 2, "0")))
		write(t, a, "/", "more", "3:1:1", of("1", "1"))
		change(t, a, api.Change{Kind: api.NameVar, Path: "/", Name: "v", New: "w"})
	})
	checkState(t, "added and longer", d, "5\n/ alone 2 1 -\n/ long 4 0 -\n/ more 5 1 -\n/ w 1 1 -\n/ written 3 2 -\n")
}

func TestChangeErrors(t *testing.T) {
	for format := 1; format <= 2; format++ {
		d, a := made(t, 60, format)
		begin(t, a)
		dict, shuffle := api.Stage{Kind: api.StageDict}, api.Stage{Kind: api.StageShuffle}
		// with returns a variable with a name, a unit, a fill and stages.
		with := func(name, unit, fill string, stages ...api.Stage) api.Change {
			v := line(name, 2, fill, stages...)
			v.Unit = unit
			return vari("/", v)
		}
		for i, c := range []struct {
			c              api.Change
			first, younger api.Errno // in format 1, and in format 2
		}{
			{with("v", "m", "x", shuffle), api.ErrExists, api.ErrExists}, {with("V", "m", "x", shuffle), api.ErrName, api.ErrName}, {with("w", "x", "1", shuffle), api.ErrSchema, api.ErrSchema},
			{with("w", "m", "40000", shuffle), api.ErrSchema, api.ErrSchema}, {with("w", "m", "1", shuffle), api.ErrVersion, api.ErrStage}, {with("w", "", "1", shuffle), api.ErrVersion, api.ErrStage},
			{with("w", "", "1", dict, rounding("40000")), api.ErrVersion, api.ErrStage}, {with("w", "", "1", api.Stage{Kind: api.StageRound, N: 1, Step: "7"}), api.ErrVersion, api.ErrStage},
			{with("w", "", "1", api.Stage{Kind: api.StageRound}), api.ErrVersion, api.ErrStage}, {with("w", "", "1", rounding("1/3")), api.ErrVersion, api.OK}, {with("w1", "", "32767", rounding("4")), api.ErrVersion, api.ErrValue},
			{with("w1", "", "1", rounding("2/3")), api.ErrVersion, api.ErrValue}, {with("w1", "", "-32768", rounding("40000")), api.ErrVersion, api.ErrValue}, {with("w1", "", "", rounding("40000")), api.ErrVersion, api.OK},
			{with("w2", "m", "1"), api.ErrVersion, api.OK}, {with("w3", "", "1", dict), api.ErrVersion, api.OK}, {with("w4", "", ""), api.OK, api.OK},
			{api.Change{}, api.ErrSchema, api.ErrSchema}, {api.Change{Kind: 12}, api.ErrSchema, api.ErrSchema}, {api.Change{Kind: api.DropVar, Path: "/", Name: "no"}, api.ErrNone, api.ErrNone},
			{api.Change{Kind: api.NameVar, Path: "/", Name: "v", New: "v"}, api.ErrExists, api.ErrExists}, {api.Change{Kind: api.DropDim, Path: "/", Name: "t"}, api.ErrUsed, api.ErrUsed}, {grow("/", "t", -1), api.ErrLimit, api.ErrLimit},
			{grow("/", "t", math.MaxInt), api.ErrLimit, api.ErrLimit}, {api.Change{Kind: api.AddDim, Path: "/", Dim: api.Dim{Name: "fix"}}, api.OK, api.OK}, {grow("/", "fix", 1), api.ErrFixed, api.ErrFixed}, {group("/a/b"), api.ErrNone, api.ErrNone},
		} {
			want := c.first
			if format == 2 {
				want = c.younger
			}
			checkErrno(t, fmt.Sprintf("change %d in format %d", i, format), a.Change(c.c), want)
		}
		commit(t, a)
		want := "2\n/ v 1 0 -\n/ w4 2 0 -\n"
		if format == 2 {
			want = "6\n/ v 1 0 -\n/ w 2 0 -\n/ w1 3 0 -\n/ w2 4 0 -\n/ w3 5 0 -\n/ w4 6 0 -\n"
		}
		checkState(t, "behind the changes", d, want)
	}
}

// P9.5

func TestWrite(t *testing.T) {
	d, a := made(t, 60, 2)
	do(t, a, func() {
		write(t, a, "/", "v", "2:1:1", of("1", "5"))
		write(t, a, "/", "v", "1:2:1", of("2", "7 _"))
		write(t, a, "/", "v", "1:1:1", of("1", "8"))
	})
	checkWhole(t, "written", a, "/", "v", "-1 8 _")
	checkKeys(t, "written", d, "1/0", "1/1")
	got := values(t, d)
	for key, vals := range map[string][]string{"1/0": {"-1", "8"}, "1/1": {"", "-1"}} {
		want, _ := codec.Encode(api.TypeI16, nil, vals)
		if got[key] != string(want) {
			t.Errorf("the chunk %s is %q, want %q", key, got[key], want)
		}
	}
	do(t, a, func() { write(t, a, "/", "v", "0:2:2", of("2", "1 2")) })
	checkWhole(t, "written again", open(t, d), "/", "v", "1 8 2")
}

func TestWriteOfNothing(t *testing.T) {
	d, a := made(t, 60, 2)
	do(t, a, func() {
		for i := range 4 {
			write(t, a, "/", "v", fmt.Sprintf("%d:0:1", i), of("0", ""))
		}
	})
	checkKeys(t, "a write of nothing", d)
	checkCount(t, "a write of nothing", a, "/", "v", 1)
}

func TestWriteErrors(t *testing.T) {
	d, a := made(t, 90, 2)
	do(t, a, func() {
		change(t, a, vari("/", line("r", 2, "0", rounding("1000"))))
		write(t, a, "/", "v", "0:3:1", of("3", "1 2 3"))
		write(t, a, "/", "r", "2:1:1", of("1", "1"))
	})
	spoilValue(t, d, "1/0")
	begin(t, a)
	bad := []api.Array{of("1", "x"), of("1", "01"), of("1", "1 2"), of("1", ""), of("-1", ""), of("1 1 1 1 1", "1"), of("1025", ""), {Shape: []int{1}, Vals: []string{"1/1"}}, {Shape: []int{math.MaxInt, math.MaxInt, 4}}}
	other := []api.Array{of("2", "1 2"), of("1 1", "1"), of("", "1"), of("0", "")}
	for _, b := range slices.Concat(bad, other, []api.Array{of("1", "99999"), of("1", "1")}) {
		for _, n := range noNames() {
			checkErrno(t, "Write of no variable", a.Write(n[0], n[1], nil, b), api.ErrNone)
		}
		for _, slab := range badSlabs() {
			checkErrno(t, fmt.Sprintf("Write of %.60v", slab), a.Write("/", "v", slab, b), api.ErrSlab)
		}
	}
	for _, b := range slices.Concat(bad, other) {
		checkErrno(t, fmt.Sprintf("Write of %v", b), a.Write("/", "v", cuts("0:1:1"), b), api.ErrShape)
		checkErrno(t, fmt.Sprintf("Write of %v", b), a.Write("/", "r", cuts("0:1:1"), b), api.ErrShape)
	}
	for _, x := range []string{"32768", "-32769", "1/2", "1000000000000000000000000000000000000000"} {
		checkErrno(t, "Write of "+x, a.Write("/", "v", cuts("0:3:1"), of("3", "1 2 "+x)), api.ErrValue)
		checkErrno(t, "Write of "+x, a.Write("/", "r", cuts("0:2:1"), of("2", "1 "+x)), api.ErrValue)
	}
	checkErrno(t, "Write that is too great when it is rounded", a.Write("/", "r", cuts("0:1:1"), of("1", "32500")), api.ErrValue)
	for _, slab := range []string{"0:3:1", "0:2:2", "1:2:1", "0:2:1"} {
		c := cuts(slab)
		checkErrno(t, "Write of a damaged chunk", a.Write("/", "v", c, of(fmt.Sprint(c[0].Count), strings.Repeat("1 ", c[0].Count))), api.ErrStore)
	}
	write(t, a, "/", "v", "2:1:1", of("1", "9"))
	write(t, a, "/", "v", "1:0:1", of("0", ""))
	write(t, a, "/", "r", "0:1:1", of("1", "32499"))
	commit(t, a)
	checkWhole(t, "behind the errors", a, "/", "r", "32000 0 0")
	if b, errno := a.Read("/", "v", cuts("2:1:1")); show(b) != "9" || errno != api.OK {
		t.Errorf("behind the errors: %v, error %d", b, errno)
	}
	if l, _ := a.Damaged(); len(l) != 1 {
		t.Errorf("behind the errors: damaged %v", l)
	}
}

// A Write with an error has no effect, not even on the chunks that it could have written.
func TestWriteWithoutEffect(t *testing.T) {
	d, a := made(t, 90, 2)
	do(t, a, func() { write(t, a, "/", "v", "2:1:1", of("1", "3")) })
	spoilValue(t, d, "1/1")
	do(t, a, func() {
		checkErrno(t, "Write", a.Write("/", "v", cuts("0:3:1"), of("3", "7 8 9")), api.ErrStore)
		checkErrno(t, "Write", a.Write("/", "v", cuts("0:2:1"), of("2", "7 99999")), api.ErrValue)
	})
	if b, errno := a.Read("/", "v", cuts("0:2:1")); show(b) != "-1 -1" || errno != api.OK {
		t.Errorf("behind the errors: %v, error %d", b, errno)
	}
	checkCount(t, "behind the errors", a, "/", "v", 1)
}
