package archive_test

import (
	"testing"

	"arrayarchive/api"
	"arrayarchive/archive"
	"arrayarchive/schema"
)

// P9.9 and P9.11

// checkClosed checks the calls of a view that has an end.
func checkClosed(t *testing.T, name string, v *archive.View, want api.Errno) {
	t.Helper()
	s, e1 := v.Schema()
	a, e2 := v.Read("/", "v", cuts("0:3:1"))
	_, e3 := v.Read("/", "no", nil)
	n, e4 := v.Count("/", "v")
	_, e5 := v.Count("/", "no")
	l, e6 := v.Data()
	for i, errno := range []api.Errno{e1, e2, e3, e4, e5, e6, v.Release()} {
		if errno != want {
			t.Errorf("%s: error %d of call %d, want %d", name, errno, i, want)
		}
	}
	if v.Generation() != 0 || len(s.Groups) > 0 || len(a.Shape) > 0 || len(a.Vals) > 0 || n != 0 || l != nil {
		t.Errorf("%s: results beside errors", name)
	}
}

// checkView checks that a view of the content of made still has it.
func checkView(t *testing.T, name string, v reader) {
	t.Helper()
	checkGeneration(t, name, v, 2)
	checkWhole(t, name, v, "/", "v", "-1 -1 -1")
	checkCount(t, name, v, "/", "v", 0)
	s, errno := v.Schema()
	if len(s.Groups) != 1 || len(s.Groups[0].Vars) != 1 || s.Groups[0].Vars[0].Name != "v" || errno != api.OK {
		t.Errorf("%s: schema %v, error %d", name, s, errno)
	}
	data, errno := v.Data()
	if !sameData(data, []api.Data{{Path: "/", Name: "v", A: of("3", "-1 -1 -1")}}) || errno != api.OK {
		t.Errorf("%s: data %v, error %d", name, data, errno)
	}
	refusedRead(t, name, v, "/", "w", cuts("0:3:1"), api.ErrNone)
	refusedRead(t, name, v, "/", "v", cuts("3:1:1"), api.ErrSlab)
	if n, errno := v.Count("/", "w"); n != 0 || errno != api.ErrNone {
		t.Errorf("%s: count %d, error %d", name, n, errno)
	}
}

func TestView(t *testing.T) {
	d, a := made(t, 200, 1)
	view, errno := a.View()
	checkErrno(t, "View", errno, api.OK)
	checkView(t, "at first", view)
	steps := []func(){
		func() { begin(t, a) },
		func() { write(t, a, "/", "v", "0:3:1", of("3", "1 2 3")) },
		func() { change(t, a, grow("/", "t", 2)) },
		func() { commit(t, a) },
		func() { checkErrno(t, "Upgrade", a.Upgrade(), api.OK) },
		func() { do(t, a, func() { change(t, a, vari("/", line("w", 1, "0"))) }) },
		func() {
			do(t, a, func() { change(t, a, api.Change{Kind: api.NameVar, Path: "/", Name: "v", New: "x"}) })
		},
		func() {
			do(t, a, func() { change(t, a, api.Change{Kind: api.DropVar, Path: "/", Name: "x"}) })
		},
		func() { do(t, a, func() { change(t, a, vari("/", line("v", 3, "9"))) }) },
	}
	var more []*archive.View
	var want []string
	for _, step := range steps {
		step()
		checkView(t, "later", view)
		v, errno := a.View()
		checkErrno(t, "View", errno, api.OK)
		s, _ := a.Schema()
		text, _ := schema.Print(s)
		more, want = append(more, v), append(want, text)
		for i, v := range more {
			s, errno := v.Schema()
			if text, _ := schema.Print(s); text != want[i] || errno != api.OK {
				t.Errorf("view %d: schema %s, error %d, want %s", i, text, errno, want[i])
			}
		}
	}
	checkWhole(t, "a view", more[4], "/", "v", "1 2 3 -1 -1")
	checkGeneration(t, "a view", more[4], 4)
	checkWhole(t, "the archive", a, "/", "v", "9 9 9 9 9")
	checkErrno(t, "Release", view.Release(), api.OK)
	checkClosed(t, "a released view", view, api.ErrClosed)
	checkWhole(t, "another view", more[6], "/", "x", "1 2 3 -1 -1")
	d.Crash(nil)
	checkClosed(t, "a released view behind a crash", view, api.ErrClosed)
	checkClosed(t, "a view behind a crash", more[0], api.ErrDown)
	open(t, d)
	checkClosed(t, "a view beside a new archive", more[0], api.ErrDown)
}

func TestViewErrors(t *testing.T) {
	var none *archive.View
	checkClosed(t, "nil", none, api.ErrClosed)
	checkClosed(t, "a zero value", &archive.View{}, api.ErrClosed)
	d, a := made(t, 60, 2)
	var views []*archive.View
	for range 16 {
		v, errno := a.View()
		checkErrno(t, "View", errno, api.OK)
		views = append(views, v)
	}
	for range 2 {
		if v, errno := a.View(); v != nil || errno != api.ErrLimit {
			t.Errorf("a view too many: %v, error %d", v, errno)
		}
	}
	checkErrno(t, "Release", views[3].Release(), api.OK)
	v, errno := a.View()
	checkErrno(t, "View behind Release", errno, api.OK)
	checkView(t, "a view behind Release", v)
	d.Arm(1)
	checkErrno(t, "Sync", d.Sync(), api.ErrDown)
	for _, v := range append(views[:3:3], views[4:]...) {
		checkClosed(t, "a view of a disk that is down", v, api.ErrDown)
	}
	checkClosed(t, "a released view of a disk that is down", views[3], api.ErrClosed)
}

// The blocks of a view are free behind its end.
func TestViewPins(t *testing.T) {
	d := newDisk(t, 12)
	a := create(t, d, 2)
	do(t, a, func() {
		change(t, a, vari("/", api.Var{Name: "v", Type: api.TypeI8, Fill: "3"}))
		write(t, a, "/", "v", "", of("", "1"))
	})
	view, _ := a.View()
	do(t, a, func() { write(t, a, "/", "v", "", of("", "2")) })
	begin(t, a)
	write(t, a, "/", "v", "", of("", "4"))
	checkErrno(t, "Commit", a.Commit(), api.ErrFull)
	checkWhole(t, "the view", view, "/", "v", "1")
	checkErrno(t, "Release", view.Release(), api.OK)
	commit(t, a)
	checkWhole(t, "behind the commit", a, "/", "v", "4")
}

// Damage of a chunk that a view has is found, and Repair does not change the view.
func TestViewOfDamage(t *testing.T) {
	d, a := made(t, 60, 2)
	do(t, a, func() { write(t, a, "/", "v", "0:3:1", of("3", "1 2 3")) })
	view, _ := a.View()
	spoilValue(t, d, "1/0")
	_, errno := a.Repair()
	checkErrno(t, "Repair", errno, api.OK)
	refusedRead(t, "of a damaged chunk of a view", view, "/", "v", cuts("0:3:1"), api.ErrStore)
	if x, errno := view.Read("/", "v", cuts("2:1:1")); show(x) != "3" || errno != api.OK {
		t.Errorf("beside a damaged chunk of a view: %v, error %d", x, errno)
	}
	if l, errno := view.Data(); l != nil || errno != api.ErrStore {
		t.Errorf("Data of a view with a damaged chunk: %v, error %d", l, errno)
	}
	checkCount(t, "the view", view, "/", "v", 1)
	checkWhole(t, "the archive", a, "/", "v", "-1 -1 3")
}
