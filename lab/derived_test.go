package lab_test

import (
	"fmt"
	"slices"
	"strings"
	"testing"

	"arrayarchive/api"
	"arrayarchive/lab"
)

// P10.5

func TestInfo(t *testing.T) {
	_, l := made(t, 100)
	write(t, l, "/", "v", "0:1:1", of("1", "2"))
	derive(t, l, "/a", "s", "/a/w*sum(/v,t) + 0*sum(/v,t)")
	for range 2 {
		info, errno := l.Info("/a", "s")
		want := []api.Source{{Path: "/", Name: "v", Version: 2}, {Path: "/a", Name: "w", Version: 1}}
		if info.Expr != "/a/w * sum(/v, t) + 0 * sum(/v, t)" || !slices.Equal(info.Sources, want) || errno != api.OK {
			t.Errorf("Info: %v, error %d", info, errno)
		}
		// It says what was used, not what is there now.
		write(t, l, "/", "v", "0:1:1", of("1", "7"))
	}
	derive(t, l, "/", "one", "1")
	info, errno := l.Info("/", "one")
	if info.Expr != "1" || len(info.Sources) > 0 || errno != api.OK {
		t.Errorf("Info without sources: %v, error %d", info, errno)
	}
}

// What is the note of a derived variable, and what is not.
func TestNotes(t *testing.T) {
	_, l := made(t, 100)
	for _, c := range []struct {
		note, expr string
		versions   []int
	}{
		{"\x011\n", "1", nil},
		{"\x01/v\n/ v 0\n", "/v", []int{0}},
		{"\x01/v\n/ v 123\n", "/v", []int{123}},
		{"\x01/a/w + /v * /a/w\n/ v 3\n/a w 10\n", "/a/w + /v * /a/w", []int{3, 10}},
		{"\x01/none + /v\n/ none 0\n/ v 0\n", "/none + /v", []int{0, 0}},
		{"\x01to(1, \"no unit\")\n", "to(1, \"no unit\")", nil},
		{"", "", nil},
		{"\x01", "", nil},
		{"\x01\n", "", nil},
		{"\x011", "", nil},
		{"1\n", "", nil},
		{"\x02" + "1\n", "", nil},
		{"\x01\x011\n", "", nil},
		{" \x011\n", "", nil},
		{"\x011\n\n", "", nil},
		{"\x011\n ", "", nil},
		{"\x011 \n", "", nil},
		{"\x01(1)\n", "", nil},
		{"\x011+1\n", "", nil},
		{"\x011 +\n", "", nil},
		{"\x01/v", "", nil},
		{"\x01/a/w + /v\n/ v 0", "", nil},
		{"\x01/v\n", "", nil},
		{"\x01/v\n/ v\n", "", nil},
		{"\x01/v\n/ v \n", "", nil},
		{"\x01/v\n/ v 0", "", nil},
		{"\x01/v\n/ v 00\n", "", nil},
		{"\x01/v\n/ v +1\n", "", nil},
		{"\x01/v\n/ v -1\n", "", nil},
		{"\x01/v\n/ v -0\n", "", nil},
		{"\x01/v\n/ v 1_0\n", "", nil},
		{"\x01/v\n/ v x\n", "", nil},
		{"\x01/v\n/ v 99999999999999999999\n", "", nil},
		{"\x01/v\n/  v 0\n", "", nil},
		{"\x01/v\n/ v  0\n", "", nil},
		{"\x01/v\n/ v 0 \n", "", nil},
		{"\x01/v\n/v 0\n", "", nil},
		{"\x01/v\n/ w 0\n", "", nil},
		{"\x01/v\n/a v 0\n", "", nil},
		{"\x01/v\n/ v 0\n/ v 0\n", "", nil},
		{"\x01/v\n/ v 0\n/a w 0\n", "", nil},
		{"\x01/v + /v\n/ v 0\n/ v 0\n", "", nil},
		{"\x01/a/w + /v\n/a w 0\n/ v 0\n", "", nil},
		{"\x01/a/w + /v\n/ v 0\n", "", nil},
		{"\x01/a/w + /v\n/a w 0\n", "", nil},
		{"\x01" + strings.Repeat("0", 1000) + "\n", strings.Repeat("0", 1000), nil},
		{"\x01" + strings.Repeat("0", 1001) + "\n", "", nil},
	} {
		setNote(t, l, "/a", "w", c.note)
		info, errno := l.Info("/a", "w")
		var versions []int
		for _, s := range info.Sources {
			versions = append(versions, s.Version)
		}
		want, order := api.OK, "/a:w"
		if c.expr == "" {
			want, order = api.ErrDerived, ""
		}
		if info.Expr != c.expr || !slices.Equal(versions, c.versions) || errno != want {
			t.Errorf("Info with the note %q: %v, error %d", c.note, info, errno)
		}
		if strings.Contains(c.expr, "/a/w") {
			checkList(t, fmt.Sprintf("Order with the note %q", c.note), l.Order, "", api.ErrCycle)
		} else {
			checkList(t, fmt.Sprintf("Order with the note %q", c.note), l.Order, order, api.OK)
		}
		checkErrno(t, fmt.Sprintf("Write with the note %q", c.note), l.Write("/a", "w", nil, of("", "7")), map[bool]api.Errno{true: api.ErrDerived}[c.expr != ""])
	}
}

func TestInfoErrors(t *testing.T) {
	d, l := made(t, 100)
	derive(t, l, "/", "s", "sum(/v, t)")
	spoilValue(t, d, "4/")
	spoilValue(t, d, "2/0")
	for _, c := range []struct {
		path, name    string
		info, current api.Errno
	}{
		{"/", "none", api.ErrNone, api.ErrNone},
		{"/none", "v", api.ErrNone, api.ErrNone},
		{"", "", api.ErrNone, api.ErrNone},
		{"/", "t", api.ErrDerived, api.ErrDerived},
		{"/", "v", api.ErrDerived, api.ErrStore},
		{"/", "s", api.OK, api.ErrStore},
	} {
		info, errno := l.Info(c.path, c.name)
		if (info.Expr != "") != (errno == api.OK) || errno != c.info {
			t.Errorf("Info of %s of %s: %v, error %d, want %d", c.name, c.path, info, errno, c.info)
		}
		checkCurrent(t, "errors", l, c.path, c.name, false, c.current)
	}
}

// stack makes variables that depend on one another: /b:x on /s, /s on v, /b:y on /b:x and /a:w, /c on w.
func stack(t *testing.T, l *lab.Lab) {
	t.Helper()
	change(t, l, group("/b"))
	derive(t, l, "/", "s", "sum(/v, t)")
	derive(t, l, "/b", "x", "/s * 2")
	derive(t, l, "/b", "y", "/b/x + /b/x * /a/w")
	derive(t, l, "/", "c", "/a/w")
}

func TestStale(t *testing.T) {
	_, l := made(t, 300)
	stack(t, l)
	checkList(t, "behind Derive", l.Stale, "", api.OK)
	write(t, l, "/", "v", "0:1:1", of("1", "2"))
	checkList(t, "another v", l.Stale, "/:s", api.OK)
	checkCurrent(t, "another v", l, "/", "s", false, api.OK)
	checkCurrent(t, "another v", l, "/b", "x", true, api.OK)
	write(t, l, "/a", "w", "", of("", "8"))
	checkList(t, "another w", l.Stale, "/:c /:s /b:y", api.OK)
	write(t, l, "/", "v", "0:2:2", of("2", "1 3"))
	checkList(t, "the old v", l.Stale, "/:c /b:y", api.OK)
	// The sum is the same, whatever v is.
	write(t, l, "/", "v", "0:3:1", of("3", "1 2 1"))
	checkList(t, "v with the same sum", l.Stale, "/:c /b:y", api.OK)
	write(t, l, "/a", "w", "", of("", "7"))
	checkList(t, "the old w", l.Stale, "", api.OK)
	// Another unit, or another meaning of the names.
	change(t, l, drop("/a", "w"))
	checkList(t, "without w", l.Stale, "/:c /b:y", api.OK)
	change(t, l, vari("/a", over("w", api.TypeNum, "m")))
	write(t, l, "/a", "w", "", of("", "7"))
	checkList(t, "w in another unit", l.Stale, "/:c /b:y", api.OK)
	change(t, l, drop("/a", "w"))
	v := over("w", api.TypeI8, "1")
	v.Fill = "7"
	change(t, l, vari("/a", v))
	checkList(t, "w as a fill", l.Stale, "", api.OK)
	// What is done with a derived variable directly.
	a := l.Archive()
	do(t, a, func() { checkErrno(t, "Write", a.Write("/", "c", nil, of("", "9")), api.OK) })
	checkList(t, "another c", l.Stale, "/:c", api.OK)
	setNote(t, l, "/", "c", "\x01/a/w + 2\n/a w 0\n")
	checkList(t, "another expression", l.Stale, "", api.OK)
	setNote(t, l, "/", "c", "\x01/a/w +2\n/a w 0\n")
	checkCurrent(t, "no expression", l, "/", "c", false, api.ErrDerived)
	change(t, l, rename("/", "c", "d"))
	checkList(t, "an ordinary variable", l.Stale, "", api.OK)
}

// Each part of what fits must fit.
func TestFits(t *testing.T) {
	_, l := made(t, 300)
	change(t, l, dim("/", "x", 3))
	change(t, l, dim("/", "two", 2))
	change(t, l, vari("/", over("k", api.TypeNum, "km", "t")))
	change(t, l, vari("/", over("m", api.TypeNum, "1000 m", "t")))
	change(t, l, vari("/", over("n", api.TypeNum, "1 km", "x")))
	change(t, l, vari("/", over("h", api.TypeNum, "km", "two")))
	change(t, l, vari("/", over("o", api.TypeNum, "m", "t")))
	change(t, l, vari("/", over("p", api.TypeNum, "", "t")))
	change(t, l, vari("/", over("q", api.TypeNum, "1", "t")))
	change(t, l, vari("/a", over("k", api.TypeI8, "km", "t")))
	a := l.Archive()
	do(t, a, func() {
		for _, place := range []string{"/ k", "/ m", "/ n", "/ o", "/ p", "/ q", "/a k"} {
			path, name, _ := strings.Cut(place, " ")
			checkErrno(t, "Write", a.Write(path, name, cuts("0:3:1"), of("3", "1 _ 3")), api.OK)
		}
		checkErrno(t, "Write", a.Write("/", "h", cuts("0:2:1"), of("2", "1 _")), api.OK)
	})
	for _, c := range []struct {
		place, expr string
		want        bool
	}{
		{"/ k", "/v", true},
		{"/ m", "/v", true},
		{"/a k", "/v", true},
		{"/a k", "/v + /v", false},
		{"/ n", "/v", false},
		{"/ h", "/v", false},
		{"/ h", "slice(/v, t, 0, 2, 1)", false},
		{"/ o", "/v", false},
		{"/ o", "to(/v, \"m\") / 1000", true},
		{"/ o", "to(/v, \"m\")", false},
		{"/ p", "/v", false},
		{"/ p", "bare(/v)", true},
		{"/ q", "bare(/v)", true},
		{"/ q", "/v / to(1, \"1\")", false},
		{"/ p", "to(bare(/v), \"2\") * 2", false},
		{"/ k", "/v + 1", false},
		{"/ k", "/none", false},
		{"/ k", "/v * 1", true},
		{"/ k", "/v * /a/w / 7", true},
		{"/ k", "sum(/v, t)", false},
	} {
		path, name, _ := strings.Cut(c.place, " ")
		note := "\x01" + c.expr + "\n"
		for _, source := range []string{"/none", "/v"} {
			if strings.Contains(c.expr, source) {
				note += "/ " + source[1:] + " 0\n"
			}
		}
		if strings.Contains(c.expr, "/a/w") {
			note += "/a w 0\n"
		}
		setNote(t, l, path, name, note)
		checkCurrent(t, c.expr, l, path, name, c.want, api.OK)
		stale := path + ":" + name
		if c.want {
			stale = ""
		}
		checkList(t, c.expr, l.Stale, stale, api.OK)
		setNote(t, l, path, name, "")
	}
}

// The dimension that a name means may become another one.
func TestFitsOfAnotherDimension(t *testing.T) {
	_, l := made(t, 300)
	derive(t, l, "/a", "v", "/v", 2)
	derive(t, l, "/a", "k", "/v * 2", 2)
	write(t, l, "/", "v", "0:1:1", of("1", "2"))
	change(t, l, api.Change{Kind: api.NameDim, Path: "/", Name: "t", New: "time"})
	checkList(t, "a renamed dimension", l.Stale, "/a:k /a:v", api.OK)
	checkList(t, "a renamed dimension", l.Refresh, "/a:k /a:v", api.OK)
	checkRead(t, "a renamed dimension", l, "/a", "v", "2 _ 3")
	change(t, l, group("/b"))
	change(t, l, dim("/b", "time", 4))
	a := l.Archive()
	do(t, a, func() {
		checkErrno(t, "Change", a.Change(vari("/b", over("v", api.TypeNum, "km", "time"))), api.OK)
		checkErrno(t, "Write", a.Write("/b", "v", cuts("0:3:1"), of("3", "2 _ 3")), api.OK)
		checkErrno(t, "SetNote", a.SetNote("/b", "v", []byte("\x01/v\n/ v 2\n")), api.OK)
	})
	checkCurrent(t, "another size", l, "/b", "v", false, api.OK)
	checkList(t, "another size", l.Refresh, "", api.OK)
	change(t, l, grow("/", "time", 1))
	checkCurrent(t, "the same size", l, "/b", "v", true, api.OK)
	checkList(t, "the same size", l.Stale, "", api.OK)
	checkRead(t, "the same size", l, "/a", "k", "4 _ 6 _")
}

// A variable that cannot be read is not current, and what is made of it has no result.
func TestStaleOfDamaged(t *testing.T) {
	d, l := made(t, 300)
	stack(t, l)
	spoilValue(t, d, "4/")
	checkList(t, "s cannot be read", l.Stale, "/:s /b:x", api.OK)
	checkCurrent(t, "s cannot be read", l, "/", "s", false, api.ErrStore)
	checkCurrent(t, "s cannot be read", l, "/b", "x", false, api.OK)
	checkList(t, "s cannot be read", l.Order, "/:c /:s /b:x /b:y", api.OK)
	n := l.Archive().Generation()
	checkList(t, "s cannot be read", l.Refresh, "", api.ErrStore)
	if l.Archive().Generation() != n {
		t.Error("Refresh has an effect")
	}
	if _, errno := l.Archive().Repair(); errno != api.OK {
		t.Errorf("Repair: error %d", errno)
	}
	checkRead(t, "behind Repair", l, "/", "s", "_")
	checkList(t, "behind Repair", l.Stale, "/:s /b:x", api.OK)
	checkList(t, "behind Repair", l.Refresh, "/:s", api.OK)
	checkList(t, "behind Refresh", l.Stale, "", api.OK)
	// A source that cannot be read leaves what is made of it as it is.
	d, l = made(t, 300)
	stack(t, l)
	write(t, l, "/a", "w", "", of("", "1"))
	spoilValue(t, d, "2/0")
	checkList(t, "v cannot be read", l.Stale, "/:c /:s /b:y", api.OK)
	checkList(t, "v cannot be read", l.Refresh, "/:c /b:y", api.OK)
	checkRead(t, "v cannot be read", l, "/", "s", "4")
	checkList(t, "behind Refresh", l.Stale, "/:s", api.OK)
}

// P10.6

func TestOrder(t *testing.T) {
	_, l := made(t, 300)
	checkList(t, "no derived variables", l.Order, "", api.OK)
	stack(t, l)
	checkList(t, "by groups and variables", l.Order, "/:c /:s /b:x /b:y", api.OK)
	change(t, l, rename("/b", "y", "a"))
	checkList(t, "a renamed one", l.Order, "/:c /:s /b:x /b:a", api.OK)
	setNote(t, l, "/", "c", "\x01/b/a * /none\n/ none 0\n/b a 0\n")
	checkList(t, "another expression", l.Order, "/:s /b:x /b:a /:c", api.OK)
	change(t, l, vari("/", over("none", api.TypeNum, "")))
	checkList(t, "with a variable that depends on nothing", l.Order, "/:s /b:x /b:a /:c", api.OK)
	setNote(t, l, "/", "none", "\x01/b/x\n/b x 0\n")
	checkList(t, "with a further derived one", l.Order, "/:s /b:x /:none /b:a /:c", api.OK)
	// The first one that could be next, not the first one of a list of those without dependences.
	setNote(t, l, "/", "s", "\x01/a/w\n/a w 0\n")
	setNote(t, l, "/a", "w", "\x011\n")
	checkList(t, "behind w", l.Order, "/a:w /:s /b:x /:none /b:a /:c", api.OK)
	setNote(t, l, "/a", "w", "\x01/c\n/ c 0\n")
	checkList(t, "a circle", l.Order, "", api.ErrCycle)
	checkErrno(t, "Begin", l.Archive().Begin(), api.OK)
	checkList(t, "a circle", l.Refresh, "", api.ErrCycle)
	checkErrno(t, "Abort", l.Archive().Abort(), api.OK)
	setNote(t, l, "/a", "w", "\x01/a/w\n/a w 0\n")
	checkList(t, "a variable of itself", l.Order, "", api.ErrCycle)
	checkList(t, "a variable of itself", l.Refresh, "", api.ErrCycle)
	setNote(t, l, "/a", "w", "\x01/a/w\n/a w 00\n")
	checkList(t, "an ordinary one of itself", l.Order, "/:s /b:x /:none /b:a /:c", api.OK)
}

// Where a circle is not closed because one is ordinary, there is none.
func TestNoCycle(t *testing.T) {
	_, l := made(t, 300)
	change(t, l, vari("/", over("x", api.TypeNum, "")))
	derive(t, l, "/", "y", "/x")
	setNote(t, l, "/", "x", "\x01/y\n/ y 1\n")
	checkList(t, "a circle", l.Order, "", api.ErrCycle)
	checkList(t, "a circle", l.Stale, "", api.OK)
	setNote(t, l, "/", "y", "")
	checkList(t, "no circle", l.Order, "/:x", api.OK)
	// A coordinate by which a group goes is not named.
	change(t, l, dim("/", "year", 1))
	derive(t, l, "/", "c", "group(count, /v, t, year)", 1)
	setNote(t, l, "/", "t", "\x01bare(/c) * 1\n/ c 1\n")
	checkList(t, "by a coordinate", l.Order, "/:c /:t /:x", api.OK)
	setNote(t, l, "/", "c", "\x01group(count, /t, t, year)\n/ t 1\n")
	checkList(t, "with a coordinate", l.Order, "", api.ErrCycle)
}

func TestRefresh(t *testing.T) {
	_, l := made(t, 300)
	stack(t, l)
	n := l.Archive().Generation()
	checkList(t, "all are current", l.Refresh, "", api.OK)
	if l.Archive().Generation() != n {
		t.Error("a Refresh that writes nothing commits")
	}
	write(t, l, "/", "v", "0:1:1", of("1", "2"))
	checkList(t, "another v", l.Refresh, "/:s /b:x /b:y", api.OK)
	if m := l.Archive().Generation(); m != n+4 {
		t.Errorf("behind one write and three refreshed variables: generation %d, before them %d", m, n)
	}
	for _, c := range []struct{ path, name, vals, note string }{
		{"/", "s", "5", "\x01sum(/v, t)\n/ v 2\n"},
		{"/b", "x", "10", "\x01/s * 2\n/ s 2\n"},
		{"/b", "y", "80", "\x01/b/x + /b/x * /a/w\n/a w 1\n/b x 2\n"},
		{"/", "c", "7", "\x01/a/w\n/a w 1\n"},
	} {
		checkRead(t, "behind Refresh", l, c.path, c.name, c.vals)
		checkNote(t, "behind Refresh", l, c.path, c.name, c.note)
	}
	// s is computed, and is what it was: so x stays current.
	write(t, l, "/", "v", "0:3:1", of("3", "0 5 0"))
	checkList(t, "v with the same sum", l.Refresh, "", api.OK)
	checkNote(t, "a variable that stays current", l, "/", "s", "\x01sum(/v, t)\n/ v 2\n")
	write(t, l, "/a", "w", "", of("", "8"))
	checkList(t, "another w", l.Refresh, "/:c /b:y", api.OK)
	// x has no result any more, y is made of the old one.
	change(t, l, drop("/", "s"))
	write(t, l, "/a", "w", "", of("", "9"))
	checkList(t, "without s", l.Refresh, "/:c /b:y", api.OK)
	checkRead(t, "without s", l, "/b", "x", "10")
	checkNote(t, "without s", l, "/b", "x", "\x01/s * 2\n/ s 2\n")
	checkList(t, "without s", l.Stale, "/b:x", api.OK)
	checkList(t, "without s", l.Refresh, "", api.OK)
}

// A refresh with an error returns nothing, and what it has committed stays.
func TestRefreshErrors(t *testing.T) {
	_, l := made(t, 300)
	stack(t, l)
	change(t, l, vari("/", over("m", api.TypeI8, "km")))
	setNote(t, l, "/", "m", "\x01/s * 100\n/ s 1\n")
	write(t, l, "/", "v", "0:1:1", of("1", "2"))
	checkList(t, "a value that does not fit its type", l.Refresh, "", api.ErrValue)
	checkErrno(t, "Abort", l.Archive().Abort(), api.ErrBusy)
	checkRead(t, "behind the error", l, "/", "s", "5")
	checkRead(t, "behind the error", l, "/", "m", "_")
	checkList(t, "behind the error", l.Stale, "/:m /b:x", api.OK)
	change(t, l, drop("/", "m"))
	checkList(t, "without m", l.Refresh, "/b:x /b:y", api.OK)
}

func TestRefreshFull(t *testing.T) {
	for blocks := 12; blocks < 40; blocks++ {
		d := newDisk(t, blocks)
		l := create(t, d)
		change(t, l, vari("/", over("v", api.TypeNum, "")))
		write(t, l, "/", "v", "", of("", "1"))
		errno := api.OK
		for i := range 3 {
			errno = max(errno, l.Derive("/", fmt.Sprint("d", i), "/v", nil))
		}
		errno = max(errno, l.Write("/", "v", nil, of("", "2")))
		if errno != api.OK {
			checkErrno(t, "a small disk", errno, api.ErrFull)
			continue
		}
		// What a view has pinned leaves room for some of the commits.
		view, errno := l.Archive().View()
		checkErrno(t, "View", errno, api.OK)
		n := l.Archive().Generation()
		written, errno := l.Refresh()
		m := l.Archive().Generation() - n
		if errno != api.OK {
			checkErrno(t, "Refresh", errno, api.ErrFull)
		}
		if errno != api.OK && len(written) > 0 || errno == api.OK && (len(written) != 3 || m != 3) || errno != api.OK && m > 2 {
			t.Errorf("%d blocks: %v, error %d, %d commits", blocks, written, errno, m)
		}
		for i := range 3 {
			checkCurrent(t, "behind a Refresh of some", l, "/", fmt.Sprint("d", i), i < m, api.OK)
		}
		checkErrno(t, "Release", view.Release(), api.OK)
		_, errno = l.Refresh()
		checkErrno(t, "Refresh", errno, api.OK)
		checkList(t, "behind Refresh", l.Stale, "", api.OK)
	}
}

// A variable that rounds what is written is never current, and is written again and again.
func TestRefreshOfRounded(t *testing.T) {
	_, l := made(t, 300)
	v := over("r", api.TypeI16, "")
	v.Stages = []api.Stage{{Kind: api.StageRound, Step: "5"}}
	change(t, l, vari("/", v))
	setNote(t, l, "/", "r", "\x01/a/w\n/a w 0\n")
	for n := range 2 {
		checkList(t, "a rounded variable", l.Refresh, "/:r", api.OK)
		checkRead(t, "a rounded variable", l, "/", "r", "5")
		if count, _ := l.Archive().Count("/", "r"); count != n+1 {
			t.Errorf("count %d", count)
		}
	}
	write(t, l, "/a", "w", "", of("", "5"))
	checkList(t, "a rounded variable", l.Refresh, "", api.OK)
}
