package lab_test

import (
	"fmt"
	"slices"
	"strings"
	"testing"

	"arrayarchive/api"
	"arrayarchive/archive"
	"arrayarchive/lab"
	"arrayarchive/schema"
	"arrayarchive/store"
)

// P10.1

func TestCreateOpen(t *testing.T) {
	d := newDisk(t, 30)
	l := create(t, d)
	a := l.Archive()
	if a == nil || a != l.Archive() || a.Format() != 2 || a.Generation() != 1 {
		t.Fatalf("Create: format %d, generation %d", a.Format(), a.Generation())
	}
	s, errno := a.Schema()
	if !schema.Equal(s, schema.Empty()) || errno != api.OK {
		t.Errorf("Create: schema %v, error %d", s, errno)
	}
	change(t, l, dim("/", "t", 2))
	again := open(t, d)
	if again.Archive().Generation() != 2 || state(t, again) != state(t, l) {
		t.Error("Open: another content")
	}
	create(t, d)
	if n := open(t, d).Archive().Generation(); n != 1 {
		t.Errorf("Create on a disk that is used: generation %d", n)
	}
}

func TestCreateOpenErrors(t *testing.T) {
	down := newDisk(t, 30)
	down.Arm(1)
	down.Sync()
	foreign := newDisk(t, 30)
	store.Format(foreign)
	for _, c := range []struct {
		name         string
		d            *store.Disk
		create, open api.Errno
	}{
		{"nil", nil, api.ErrDown, api.ErrDown},
		{"a zero disk", &store.Disk{}, api.ErrDown, api.ErrDown},
		{"a disk that is down", down, api.ErrDown, api.ErrDown},
		{"an empty disk", newDisk(t, 30), api.OK, api.ErrStore},
		{"a small disk", newDisk(t, 5), api.ErrFull, api.ErrStore},
		{"another store", foreign, api.OK, api.ErrStore},
	} {
		l, errno := lab.Open(c.d)
		checkErrno(t, "Open of "+c.name, errno, c.open)
		if l != nil {
			t.Errorf("Open of %s: not nil", c.name)
		}
		l, errno = lab.Create(c.d)
		checkErrno(t, "Create on "+c.name, errno, c.create)
		if (l != nil) != (errno == api.OK) {
			t.Errorf("Create on %s: %v", c.name, l)
		}
	}
}

// An archive of the old format is opened as it is.
func TestOldFormat(t *testing.T) {
	d := newDisk(t, 60)
	_, errno := archive.Create(d, 1)
	checkErrno(t, "archive.Create", errno, api.OK)
	l := open(t, d)
	if l.Archive().Format() != 1 {
		t.Errorf("format %d", l.Archive().Format())
	}
	derive(t, l, "/", "s", "1 + 2")
	checkRead(t, "the old format", l, "/", "s", "3")
	checkCurrent(t, "the old format", l, "/", "s", true, api.OK)
	checkErrno(t, "Derive of a unit", l.Derive("/", "u", "to(1, \"1/2\")", nil), api.ErrVersion)
	checkErrno(t, "a variable with a unit", l.Change(vari("/", over("m", api.TypeNum, "m"))), api.ErrVersion)
	checkErrno(t, "Upgrade", l.Archive().Upgrade(), api.OK)
	change(t, l, vari("/", over("m", api.TypeNum, "m")))
}

// checkDead checks that every call of a lab that is not alive has this error and nothing else.
func checkDead(t *testing.T, title string, l *lab.Lab) {
	t.Helper()
	checkErrno(t, title+": Change", l.Change(api.Change{}), api.ErrDown)
	checkErrno(t, title+": Write", l.Write("/", "none", nil, api.Array{}), api.ErrDown)
	checkErrno(t, title+": Derive", l.Derive("/", "v", "+", nil), api.ErrDown)
	s, a, errno := l.Value("+")
	if len(s.Dims) > 0 || len(s.Sizes) > 0 || s.Unit != (api.Unit{}) || len(a.Shape) > 0 || len(a.Vals) > 0 || errno != api.ErrDown {
		t.Errorf("%s: Value %v, %v, error %d", title, s, a, errno)
	}
	info, errno := l.Info("/", "none")
	if info.Expr != "" || len(info.Sources) > 0 || errno != api.ErrDown {
		t.Errorf("%s: Info %v, error %d", title, info, errno)
	}
	checkCurrent(t, title, l, "/", "none", false, api.ErrDown)
	checkList(t, title+": Stale", l.Stale, "", api.ErrDown)
	checkList(t, title+": Order", l.Order, "", api.ErrDown)
	checkList(t, title+": Refresh", l.Refresh, "", api.ErrDown)
}

func TestDead(t *testing.T) {
	var none *lab.Lab
	checkDead(t, "nil", none)
	if none.Archive() != nil {
		t.Error("a nil lab has an archive")
	}
	checkDead(t, "a zero lab", &lab.Lab{})
	if a := new(lab.Lab).Archive(); a != nil {
		t.Error("a zero lab has an archive")
	}
	d, l := made(t, 100)
	derive(t, l, "/", "s", "sum(/v, t)")
	// A cycle, and an open transaction, which come behind ErrDown.
	setNote(t, l, "/", "s", "\x01/s\n/ s 1\n")
	checkErrno(t, "Begin", l.Archive().Begin(), api.OK)
	d.Arm(1)
	d.Sync()
	checkDead(t, "a disk that is down", l)
	d.Crash(nil)
	checkDead(t, "a disk that was down", l)
	if l.Archive() == nil {
		t.Error("a dead lab has no archive")
	}
	open(t, d)
}

// P10.2

func TestChange(t *testing.T) {
	_, l := made(t, 100)
	n := l.Archive().Generation()
	change(t, l, grow("/", "t", 2))
	checkRead(t, "behind Grow", l, "/", "v", "1 _ 3 _ _")
	derive(t, l, "/", "m", "/v * 2", 2)
	change(t, l, rename("/", "m", "x"))
	checkRead(t, "a renamed variable", l, "/", "x", "2 _ 6 _ _")
	checkNote(t, "a renamed variable", l, "/", "x", "\x01/v * 2\n/ v 2\n")
	change(t, l, attr("/", "x", "note", "derived"))
	change(t, l, drop("/", "x"))
	if _, errno := l.Archive().Count("/", "x"); errno != api.ErrNone || l.Archive().Generation() != n+5 {
		t.Errorf("behind 5 changes: error %d, generation %d behind %d", errno, l.Archive().Generation(), n)
	}
	before := state(t, l)
	for _, c := range []struct {
		change api.Change
		want   api.Errno
	}{
		{api.Change{}, api.ErrSchema},
		{dim("/", "t", 2), api.ErrExists},
		{dim("/", "T", 2), api.ErrName},
		{dim("/x", "t", 2), api.ErrNone},
		{dim("/", "u", 2000), api.ErrLimit},
		{vari("/", api.Var{Name: "y", Type: api.TypeI8, Fill: "128"}), api.ErrSchema},
		{vari("/", api.Var{Name: "y", Type: api.TypeI8, Fill: "127", Stages: []api.Stage{{Kind: api.StageRound, Step: "128"}}}), api.ErrValue},
		{vari("/", api.Var{Name: "y", Type: api.TypeI8, Stages: []api.Stage{{Kind: api.StageDelta}}}), api.ErrStage},
		{drop("/", "x"), api.ErrNone},
	} {
		checkErrno(t, fmt.Sprintf("Change %+v", c.change), l.Change(c.change), c.want)
	}
	if state(t, l) != before || l.Archive().Generation() != n+5 {
		t.Error("a change with an error has an effect")
	}
	checkErrno(t, "Abort", l.Archive().Abort(), api.ErrBusy)
}

func TestWrite(t *testing.T) {
	_, l := made(t, 100)
	derive(t, l, "/", "s", "sum(/v, t)")
	n := l.Archive().Generation()
	write(t, l, "/", "v", "0:2:2", of("2", "5 6"))
	checkRead(t, "behind Write", l, "/", "v", "5 _ 6")
	write(t, l, "/", "v", "0:0:1", of("0", ""))
	if count, errno := l.Archive().Count("/", "v"); count != 3 || errno != api.OK || l.Archive().Generation() != n+2 {
		t.Errorf("behind three writes: count %d, error %d", count, errno)
	}
	before := state(t, l)
	for _, c := range []struct {
		path, name, slab string
		b                api.Array
		want             api.Errno
	}{
		{"/", "x", "0:1:1", of("1", "1"), api.ErrNone},
		{"/b", "v", "0:9:1", of("1", "1"), api.ErrNone},
		{"", "", "", of("", "1"), api.ErrNone},
		{"/", "s", "", of("", "1"), api.ErrDerived},
		{"/", "s", "0:9:1", of("1", "x"), api.ErrDerived},
		{"/", "v", "0:9:1", of("1", "70000"), api.ErrSlab},
		{"/", "v", "0:1:1", of("2", "1 2"), api.ErrShape},
		{"/", "v", "0:1:1", of("1", "70000"), api.ErrValue},
	} {
		title := fmt.Sprintf("Write %s %s %s", c.path, c.name, c.slab)
		checkErrno(t, title, l.Write(c.path, c.name, cuts(c.slab), c.b), c.want)
		checkErrno(t, "Begin", l.Archive().Begin(), api.OK)
		checkErrno(t, title+" in a transaction", l.Write(c.path, c.name, cuts(c.slab), c.b), api.ErrBusy)
		checkErrno(t, "Abort", l.Archive().Abort(), api.OK)
	}
	if state(t, l) != before || l.Archive().Generation() != n+2 {
		t.Error("a write with an error has an effect")
	}
	// Without its note a variable is an ordinary one.
	setNote(t, l, "/", "s", "")
	write(t, l, "/", "s", "", of("", "1"))
}

// A transaction of the archive that is open stays open.
func TestBusy(t *testing.T) {
	_, l := made(t, 100)
	derive(t, l, "/", "s", "sum(/v, t)")
	a := l.Archive()
	checkErrno(t, "Begin", a.Begin(), api.OK)
	checkErrno(t, "archive.Write", a.Write("/", "v", cuts("0:1:1"), of("1", "100")), api.OK)
	checkErrno(t, "Change", l.Change(api.Change{}), api.ErrBusy)
	checkErrno(t, "Write", l.Write("/", "none", nil, api.Array{}), api.ErrBusy)
	checkErrno(t, "Derive", l.Derive("/none", "s", "+", nil), api.ErrBusy)
	checkList(t, "Refresh", l.Refresh, "", api.ErrBusy)
	// The others are about the committed content.
	checkCurrent(t, "a transaction", l, "/", "s", true, api.OK)
	checkList(t, "Stale", l.Stale, "", api.OK)
	checkList(t, "Order", l.Order, "/:s", api.OK)
	checkValue(t, l, "sum(/v, t)", "", "", "4")
	checkErrno(t, "Commit", a.Commit(), api.OK)
	checkCurrent(t, "behind the transaction", l, "/", "s", false, api.OK)
	checkRead(t, "behind the transaction", l, "/", "v", "100 _ 3")
}

// With ErrFull nothing has changed, and no transaction is open.
func TestFull(t *testing.T) {
	d := newDisk(t, 11)
	l := create(t, d)
	change(t, l, vari("/", over("v", api.TypeNum, "")))
	write(t, l, "/", "v", "", of("", "1"))
	p, errno := l.Archive().View()
	checkErrno(t, "View", errno, api.OK)
	write(t, l, "/", "v", "", of("", "2"))
	before, n := state(t, l), l.Archive().Generation()
	for range 2 {
		checkErrno(t, "Change", l.Change(drop("/", "v")), api.ErrFull)
		checkErrno(t, "Write", l.Write("/", "v", nil, of("", "3")), api.ErrFull)
		checkErrno(t, "Derive", l.Derive("/", "s", "/v", nil), api.ErrFull)
	}
	if state(t, l) != before || l.Archive().Generation() != n {
		t.Error("ErrFull has an effect")
	}
	checkErrno(t, "Release", p.Release(), api.OK)
	write(t, l, "/", "v", "", of("", "3"))
}

// P10.3

func checkValue(t *testing.T, l *lab.Lab, text, dims, shape, vals string) {
	t.Helper()
	s, a, errno := l.Value(text)
	if errno != api.OK || !slices.Equal(s.Dims, strings.Fields(dims)) || !slices.Equal(s.Sizes, ints(shape)) || !same(a, of(shape, vals)) {
		t.Errorf("Value of %s: %v, %v, error %d, want the dimensions %q, the shape %q and the values %q", text, s, a, errno, dims, shape, vals)
	}
}

func checkValueErrno(t *testing.T, l *lab.Lab, text string, want api.Errno) {
	t.Helper()
	s, a, errno := l.Value(text)
	if len(s.Dims) > 0 || len(s.Sizes) > 0 || s.Unit != (api.Unit{}) || len(a.Shape) > 0 || len(a.Vals) > 0 || errno != want {
		t.Errorf("Value of %s: %v, %v, error %d, want %d", text, s, a, errno, want)
	}
}

func TestValue(t *testing.T) {
	_, l := made(t, 100)
	checkValue(t, l, "1/3", "", "", "1/3")
	checkValue(t, l, "/v", "t", "3", "1 _ 3")
	checkValue(t, l, " /v+ /v*/a/w", "t", "3", "8 _ 24")
	checkValue(t, l, "cycle(sum, /v, t, month)", "month", "2", "1 3")
	checkValue(t, l, "group(count, /v, t, year)", "year", "1", "2")
	checkValue(t, l, "slice(/v, t, 3, 0, 1)", "t", "0", "")
	s, _, errno := l.Value("/v / 2")
	if s.Unit.Factor != "1000" || s.Unit.Powers != [7]int{1} || errno != api.OK {
		t.Errorf("unit %v, error %d", s.Unit, errno)
	}
	s, _, errno = l.Value("count(/v, t)")
	if s.Unit != (api.Unit{Factor: "1", Offset: "0"}) || errno != api.OK {
		t.Errorf("unit %v, error %d", s.Unit, errno)
	}
	for text, want := range map[string]api.Errno{
		strings.Repeat("1", 1001):     api.ErrLimit,
		"":                            api.ErrSyntax,
		"/v +":                        api.ErrSyntax,
		strings.Repeat("-", 20) + "1": api.ErrLimit,
		"/v + 1":                      api.ErrMatch,
		"/x":                          api.ErrNone,
		"/x + (/v + 1)":               api.ErrNone,
		"sum(/v, x)":                  api.ErrDims,
		"window(sum, /v, t, 0)":       api.ErrArg,
		"cycle(sum, slice(/v, t, 0, 9, 1), t, month)": api.ErrArg,
		"group(sum, 1, t, month)":                     api.ErrDims,
		"to(/v, \"x\")":                               api.ErrUnit,
		strings.Repeat("9", 41) + " + /x":             api.ErrExpr,
	} {
		checkValueErrno(t, l, text, want)
	}
}

// Each variable is read by itself.
func TestValueOfDamaged(t *testing.T) {
	d, l := made(t, 100)
	spoilValue(t, d, "2/1")
	checkValue(t, l, "/a/w", "", "", "7")
	checkValue(t, l, "sum(/t, t)", "", "", "63")
	checkValueErrno(t, l, "/v", api.ErrNone)
	checkValueErrno(t, l, "slice(/v, t, 0, 1, 1)", api.ErrNone)
	checkValueErrno(t, l, "/a/w + /v", api.ErrMatch)
	checkValueErrno(t, l, "/v * (/a/w + 1) - /x", api.ErrNone)
	d, l = made(t, 100)
	spoilValue(t, d, "1/0")
	checkValue(t, l, "/v", "t", "3", "1 _ 3")
	checkValueErrno(t, l, "cycle(sum, /v, t, month)", api.ErrTime)
	checkValueErrno(t, l, "cycle(sum, /t, t, month)", api.ErrTime)
	checkValueErrno(t, l, "/t", api.ErrNone)
	if _, errno := l.Archive().Repair(); errno != api.OK {
		t.Errorf("Repair: error %d", errno)
	}
	checkValue(t, l, "/t", "t", "3", "_ _ 32")
}

// P10.4

func TestDerive(t *testing.T) {
	_, l := made(t, 200)
	for _, c := range []struct {
		path, name, text, chunks, vals, unit, note string
	}{
		{"/", "one", " ( 1 )", "", "1", "", "\x011\n"},
		{"/", "sum", "sum(/v,t)", "", "4", "1000 m", "\x01sum(/v, t)\n/ v 1\n"},
		{"/", "rate", "/v / /v", "1", "1 _ 1", "", "\x01/v / /v\n/ v 1\n"},
		{"/", "scale", "bare(/v) * /a/w - (1 - /sum / /sum)", "3", "7 _ 21", "", "\x01bare(/v) * /a/w - (1 - /sum / /sum)\n/ sum 1\n/ v 1\n/a w 1\n"},
		{"/a", "square", "/v*/v", "2", "1 _ 9", "1000000 m^2", "\x01/v * /v\n/ v 1\n"},
		{"/a", "ratio", "/v / to(/v, \"m\")", "1024", "1/1000 _ 1/1000", "1000", "\x01/v / to(/v, \"m\")\n/ v 1\n"},
	} {
		errno := l.Derive(c.path, c.name, c.text, ints(c.chunks))
		checkErrno(t, "Derive of "+c.text, errno, api.OK)
		s, _ := l.Archive().Schema()
		v, errno := schema.Find(s, c.path, c.name)
		dims := []string{"t"}
		if c.chunks == "" {
			dims = nil
		}
		if errno != api.OK || v.Type != api.TypeNum || !slices.Equal(v.Dims, dims) || !slices.Equal(v.Chunks, ints(c.chunks)) || v.Fill != "" || v.Unit != c.unit || len(v.Stages) > 0 || len(v.Attrs) > 0 {
			t.Errorf("Derive of %s: the variable is %+v, error %d", c.text, v, errno)
		}
		checkRead(t, "Derive of "+c.text, l, c.path, c.name, c.vals)
		checkNote(t, "Derive of "+c.text, l, c.path, c.name, c.note)
		checkCurrent(t, "Derive of "+c.text, l, c.path, c.name, true, api.OK)
		if n, errno := l.Archive().Count(c.path, c.name); n != 1 || errno != api.OK {
			t.Errorf("Derive of %s: count %d, error %d", c.text, n, errno)
		}
	}
}

// The dimensions that a result has are looked for in the group of the variable.
func TestDeriveDims(t *testing.T) {
	_, l := made(t, 200)
	change(t, l, dim("/", "month", 2))
	derive(t, l, "/a", "m", "cycle(mean, /v, t, month)", 1)
	checkRead(t, "cycle", l, "/a", "m", "1 3")
	change(t, l, group("/d"))
	change(t, l, dim("/d", "month", 2))
	derive(t, l, "/d", "m", "cycle(mean, /v, t, month) * 2", 1)
	change(t, l, group("/d/e"))
	derive(t, l, "/d/e", "m", "/d/m - /a/m", 1)
	checkRead(t, "the sum of both", l, "/d/e", "m", "1 3")
	for _, path := range []string{"/a", "/d", "/d/e"} {
		checkCurrent(t, "cycle", l, path, "m", true, api.OK)
	}
	change(t, l, group("/b"))
	change(t, l, dim("/b", "t", 2))
	checkErrno(t, "another size", l.Derive("/b", "v", "/v", []int{1}), api.ErrDims)
	derive(t, l, "/b", "v", "slice(/v, t, 0, 2, 2)", 1)
	checkRead(t, "slice", l, "/b", "v", "1 3")
	// A shape without elements.
	change(t, l, group("/c"))
	change(t, l, dim("/c", "t", 0))
	change(t, l, dim("/c", "zero", 0))
	change(t, l, vari("/c", over("z", api.TypeNum, "", "zero")))
	derive(t, l, "/c", "y", "/c/z", 1)
	checkErrno(t, "a dimension without a meaning", l.Derive("/", "z", "/c/z", []int{1}), api.ErrDims)
	derive(t, l, "/c", "v", "slice(/v, t, 3, 0, 1)", 1)
	checkRead(t, "slice of nothing", l, "/c", "v", "")
	checkCurrent(t, "slice of nothing", l, "/c", "v", true, api.OK)
}

func TestDeriveErrors(t *testing.T) {
	_, l := made(t, 200)
	change(t, l, dim("/", "month", 3))
	change(t, l, dim("/", "x", 1000))
	change(t, l, vari("/", over("warm", api.TypeNum, "degC")))
	change(t, l, vari("/", over("big", api.TypeNum, "", "x")))
	a, n := l.Archive(), l.Archive().Generation()
	before := state(t, l)
	long := strings.Repeat("/a/w+", 18) + strings.Repeat("0", 875) + "1"
	for _, c := range []struct {
		path, name, text, chunks string
		want                     api.Errno
	}{
		{"x", "v", "/v +", "", api.ErrSyntax},
		{"/none", "v", "/v + 1", "", api.ErrMatch},
		{"/none", "v", "/none", "", api.ErrNone},
		{"/none", "v", "/warm", "", api.ErrUnit},
		{"/", "v", "/warm", "", api.ErrUnit},
		{"/", "v", long, "", api.ErrLimit},
		{"/none", "v", "1", "", api.ErrNone},
		{"/b", "v", "/v", "", api.ErrNone},
		{"x", "v", "/v", "", api.ErrNone},
		{"", "", "/v", "", api.ErrNone},
		{"/", "v", "cycle(sum, /v, t, month)", "", api.ErrExists},
		{"/a", "w", "cycle(sum, /v, t, day)", "", api.ErrExists},
		{"/", "V", "cycle(sum, /v, t, month)", "", api.ErrDims},
		{"/a", "V", "cycle(sum, /v, t, day)", "", api.ErrDims},
		{"/", "V", "sum(/v, t)", "7", api.ErrName},
		{"/", "", "sum(/v, t)", "", api.ErrName},
		{"/", "y", "/v", "", api.ErrSchema},
		{"/", "y", "/v", "0", api.ErrSchema},
		{"/", "y", "/v", "1025", api.ErrSchema},
		{"/", "y", "1", "1", api.ErrSchema},
		{"/", "y", "/big", "1", api.ErrLimit},
	} {
		title := fmt.Sprintf("Derive of %s in %s as %s with chunks of %s", c.text, c.path, c.name, c.chunks)
		checkErrno(t, title, l.Derive(c.path, c.name, c.text, ints(c.chunks)), c.want)
		checkErrno(t, title+": Abort", a.Abort(), api.ErrBusy)
	}
	if state(t, l) != before || a.Generation() != n {
		t.Error("Derive with an error has an effect")
	}
	derive(t, l, "/", "y", "/big", 500)
}

// The note has at most 2000 bytes, and the text of the expression at most 1000.
func TestDeriveLimits(t *testing.T) {
	d := newDisk(t, 300)
	l := create(t, d)
	path := ""
	for i := range 4 {
		path += "/" + strings.Repeat(string(rune('a'+i)), 16)
		change(t, l, group(path))
	}
	var long, words []string
	for i := range 11 {
		long = append(long, strings.Repeat(string(rune('a'+i)), 16))
		change(t, l, vari(path, over(long[i], api.TypeNum, "")))
		words = append(words, path+"/"+long[i])
	}
	for i := range 6 {
		change(t, l, vari("/", over(string(rune('a'+i)), api.TypeNum, "")))
		words = append(words, "/"+string(rune('a'+i)))
	}
	checkErrno(t, "a note of 2001 bytes", l.Derive("/", "s", strings.Join(words, "+"), nil), api.ErrLimit)
	derive(t, l, "/", "s", strings.Join(words[:16], "+"))
	note, _ := l.Archive().Note("/", "s")
	if len(note) != 1990 {
		t.Fatalf("the note has %d bytes", len(note))
	}
	// A refresh writes greater counts into it.
	do(t, l.Archive(), func() { l.Archive().Write("/", "a", nil, of("", "1")) })
	for range 10 {
		do(t, l.Archive(), func() {
			for _, name := range long {
				checkErrno(t, "Write", l.Archive().Write(path, name, nil, of("", "1")), api.OK)
			}
		})
	}
	for _, name := range []string{"b", "c", "d", "e"} {
		write(t, l, "/", name, "", of("", "1"))
	}
	before := state(t, l)
	checkList(t, "a refreshed note of 2001 bytes", l.Refresh, "", api.ErrLimit)
	if state(t, l) != before {
		t.Error("ErrLimit has an effect")
	}
	checkErrno(t, "Abort", l.Archive().Abort(), api.ErrBusy)
	// 929 digits, and 18 signs without spaces around them.
	text := strings.Repeat("0", 929) + strings.Repeat("+1", 18)
	checkValue(t, l, text, "", "", "18")
	checkErrno(t, "a text that Format makes too long", l.Derive("/", "t", text, nil), api.ErrLimit)
	derive(t, l, "/", "t", text[1:])
}

// What is behind a Derive with ErrDown is as a whole, or not at all.
func TestDeriveDown(t *testing.T) {
	d, l := made(t, 100)
	d.Arm(3)
	checkErrno(t, "Derive", l.Derive("/", "s", "sum(/v, t)", nil), api.ErrDown)
	checkDead(t, "behind Derive", l)
	d.Crash(nil)
	l = open(t, d)
	derive(t, l, "/", "s", "sum(/v, t)")
}
