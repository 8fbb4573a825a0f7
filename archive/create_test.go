package archive_test

import (
	"strings"
	"testing"

	"arrayarchive/api"
	"arrayarchive/archive"
	"arrayarchive/schema"
	"arrayarchive/store"
)

// P9.1

func TestCreate(t *testing.T) {
	for format := 1; format <= 2; format++ {
		for _, blocks := range []int{6, 20, 1024} {
			d := newDisk(t, blocks)
			a := create(t, d, format)
			for _, x := range []*archive.Archive{a, open(t, d.Copy())} {
				s, errno := x.Schema()
				data, errno2 := x.Data()
				if x.Generation() != 1 || x.Format() != format || errno != api.OK || !schema.Equal(s, schema.Empty()) || errno2 != api.OK || len(data) > 0 {
					t.Errorf("generation %d, format %d, schema %v, error %d, data %v, error %d", x.Generation(), x.Format(), s, errno, data, errno2)
				}
			}
			want, _ := schema.Encode(schema.Empty(), format)
			got := values(t, d)
			if len(got) != 2 || got["schema"] != string(want) || got["state"] != "0\n" {
				t.Errorf("the store of an archive of format %d has %q", format, got)
			}
			if n := d.Pending(); n != 0 {
				t.Errorf("%d writes are pending", n)
			}
		}
	}
}

func refusedCreate(t *testing.T, name string, d *store.Disk, format int, want api.Errno) {
	t.Helper()
	a, errno := archive.Create(d, format)
	if a != nil || errno != want {
		t.Errorf("Create %s: %v, error %d, want %d", name, a, errno, want)
	}
}

func TestCreateErrors(t *testing.T) {
	down := newDisk(t, 20)
	down.Arm(1)
	checkErrno(t, "Sync", down.Sync(), api.ErrDown)
	small := newDisk(t, 4)
	small.Arm(1)
	for _, format := range []int{-1, 0, 3, 255, 257} {
		for _, d := range []*store.Disk{nil, {}, down, newDisk(t, 4), newDisk(t, 20)} {
			refusedCreate(t, "of a wrong format", d, format, api.ErrVersion)
		}
	}
	for _, d := range []*store.Disk{nil, {}, down, small} {
		refusedCreate(t, "on no disk", d, 1, api.ErrDown)
	}
	if !small.Down() {
		t.Error("the call that was armed did not fail")
	}
	for blocks := 4; blocks < 6; blocks++ {
		refusedCreate(t, "on a small disk", newDisk(t, blocks), 2, api.ErrFull)
	}
}

// An error without an effect leaves what a disk has, and those who use it.
func TestCreateWithoutEffect(t *testing.T) {
	d := newDisk(t, 5)
	s, _ := store.Format(d)
	checkErrno(t, "Begin", s.Begin(), api.OK)
	checkErrno(t, "Put", s.Put("a", []byte("one")), api.OK)
	checkErrno(t, "Commit", s.Commit(), api.OK)
	refusedCreate(t, "on a small disk", d, 1, api.ErrFull)
	for _, x := range []*store.Store{s, openStore(t, d)} {
		if b, errno := x.Get("a"); string(b) != "one" || errno != api.OK || x.Generation() != 1 {
			t.Errorf("the store that was there: %q, error %d", b, errno)
		}
	}
	d, a := made(t, 60, 1)
	refusedCreate(t, "of a wrong format", d, 0, api.ErrVersion)
	checkWhole(t, "the archive that was there", a, "/", "v", "-1 -1 -1")
}

func TestCreateAgain(t *testing.T) {
	d, a := made(t, 60, 1)
	do(t, a, func() { write(t, a, "/", "v", "0:3:1", of("3", "1 2 3")) })
	checkGeneration(t, "of another one", create(t, d, 2), 1)
	checkKeys(t, "of another one", d)
	checkGeneration(t, "of another one behind a crash", open(t, d), 1)
}

// Whatever call goes down, Create says so.
func TestCreateGoesDown(t *testing.T) {
	for n := 1; ; n++ {
		d := newDisk(t, 20)
		d.Arm(n)
		a, errno := archive.Create(d, 2)
		if errno == api.OK {
			if n < 5 || a == nil {
				t.Errorf("armed with %d: %v", n, a)
			}
			return
		}
		if a != nil || errno != api.ErrDown || !d.Down() || n > 100 {
			t.Fatalf("armed with %d: %v, error %d", n, a, errno)
		}
		d.Crash(nil)
		if _, errno := archive.Open(d); errno != api.ErrStore {
			t.Errorf("Open behind it: error %d", errno)
		}
	}
}

func refusedOpen(t *testing.T, name string, d *store.Disk, want api.Errno) {
	t.Helper()
	a, errno := archive.Open(d)
	if a != nil || errno != want {
		t.Errorf("Open %s: %v, error %d, want %d", name, a, errno, want)
	}
}

func TestOpenErrors(t *testing.T) {
	down, _ := made(t, 60, 2)
	down.Arm(1)
	down.Sync()
	empty := newDisk(t, 20)
	store.Format(empty)
	refusedOpen(t, "of nil", nil, api.ErrDown)
	refusedOpen(t, "of no disk", &store.Disk{}, api.ErrDown)
	refusedOpen(t, "of a disk that is down", down, api.ErrDown)
	refusedOpen(t, "of a disk without a store", newDisk(t, 20), api.ErrStore)
	refusedOpen(t, "of a disk with an empty store", empty, api.ErrStore)
	for _, key := range []string{"schema", "state"} {
		d, _ := made(t, 60, 2)
		spoilValue(t, d, key)
		refusedOpen(t, "with a damaged "+key, d, api.ErrStore)
		d, _ = made(t, 60, 2)
		put(t, d, map[string][]byte{key: nil})
		refusedOpen(t, "without "+key, d, api.ErrStore)
		d, _ = made(t, 60, 2)
		put(t, d, map[string][]byte{key: {}})
		refusedOpen(t, "with an empty "+key, d, api.ErrStore)
	}
}

// wrongStates returns states of no archive with v and w over t of size 3.
func wrongStates() []string {
	long := strings.Repeat("00", 2001)
	return []string{
		"", "\n", "3", "3\n", "3\n/ v 1 0 -\n", "3\n/ v 1 0 -", "3\n/ v 1 0 -\n\n", "3\n/ v 1 0 -\n/ w 3 0 -", "3\n/ v 1 0 -\n/ w 3 0 -\n\n", "3\n/ v 1 0 -\n/ w 3 0 -\n/ w 3 0 -\n",
		"3\n/ w 3 0 -\n/ v 1 0 -\n", "3\n/ v 1 0 -\n/ x 3 0 -\n", "3\n/ v 1 0 -\n/a w 3 0 -\n", "3\n/ v 1 0 - \n/ w 3 0 -\n", "3\n/ v 1 0\n/ w 3 0 -\n", "3\n/  v 1 0 -\n/ w 3 0 -\n",
		"2\n/ v 1 0 -\n/ w 3 0 -\n", "-3\n/ v 1 0 -\n/ w 3 0 -\n", "03\n/ v 1 0 -\n/ w 3 0 -\n", "+3\n/ v 1 0 -\n/ w 3 0 -\n", "x\n/ v 1 0 -\n/ w 3 0 -\n", "99999999999999999999\n/ v 1 0 -\n/ w 3 0 -\n",
		"3\n/ v 0 0 -\n/ w 3 0 -\n", "3\n/ v 3 0 -\n/ w 3 0 -\n", "3\n/ v -1 0 -\n/ w 3 0 -\n", "3\n/ v 01 0 -\n/ w 3 0 -\n", "3\n/ v x 0 -\n/ w 3 0 -\n", "3\n/ v 4 0 -\n/ w 3 0 -\n",
		"3\n/ v 1 -1 -\n/ w 3 0 -\n", "3\n/ v 1 00 -\n/ w 3 0 -\n", "3\n/ v 1 -0 -\n/ w 3 0 -\n", "3\n/ v 1 x -\n/ w 3 0 -\n", "3\n/ v 1  -\n/ w 3 0 -\n",
		"3\n/ v 1 0 \n/ w 3 0 -\n", "3\n/ v 1 0 0\n/ w 3 0 -\n", "3\n/ v 1 0 0g\n/ w 3 0 -\n", "3\n/ v 1 0 0A\n/ w 3 0 -\n", "3\n/ v 1 0 000\n/ w 3 0 -\n", "3\n/ v 1 0 --\n/ w 3 0 -\n", "3\n/ v 1 0 +1\n/ w 3 0 -\n", "3\n/ v 1 0 " + long + "\n/ w 3 0 -\n",
	}
}

// A store with the keys of an archive, whose values are those of none, has no content.
func TestOpenOfNoContent(t *testing.T) {
	base := newDisk(t, 100)
	a := create(t, base, 2)
	do(t, a, func() {
		change(t, a, dim("/", "t", 3))
		for _, name := range []string{"v", "x", "w"} {
			change(t, a, vari("/", line(name, 2, "-1")))
		}
		change(t, a, api.Change{Kind: api.DropVar, Path: "/", Name: "x"})
	})
	checkState(t, "two variables", base, "3\n/ v 1 0 -\n/ w 3 0 -\n")
	for _, state := range wrongStates() {
		d := base.Copy()
		put(t, d, map[string][]byte{"state": []byte(state)})
		refusedOpen(t, "with the state "+state[:min(len(state), 60)], d, api.ErrStore)
	}
	empty := newDisk(t, 20)
	create(t, empty, 1)
	for _, state := range []string{"-1\n", "-7\n", "x\n", "00\n", "0", "\n", "", "0\n\n", " 0\n"} {
		d := empty.Copy()
		put(t, d, map[string][]byte{"state": []byte(state)})
		refusedOpen(t, "with the state "+state, d, api.ErrStore)
	}
	good := []byte(values(t, base)["schema"])
	for _, b := range [][]byte{{0}, good[:len(good)-1], append([]byte("AA\x03"), good[3:]...), append([]byte("AA\x01"), good[3:]...), append(good, 0)} {
		d := base.Copy()
		put(t, d, map[string][]byte{"schema": b})
		refusedOpen(t, "with a wrong schema", d, api.ErrStore)
	}
	for _, key := range []string{"a", "schema2", "1", "1/", "1/2", "1/00", "1/-1", "1/0.0", "1/0/", "2/0", "3/2", "4/0", "01/0", "/0", "1/x"} {
		d := base.Copy()
		put(t, d, map[string][]byte{key: {1}})
		refusedOpen(t, "with the key "+key, d, api.ErrStore)
	}
	// These are other contents.
	d := base.Copy()
	put(t, d, map[string][]byte{"state": []byte("7\n/ v 4 12 00ff\n/ w 2 0 -\n"), "4/1": {1}})
	b := open(t, d)
	checkCount(t, "another state", b, "/", "v", 12)
	if note, errno := b.Note("/", "v"); string(note) != "\x00\xff" || errno != api.OK {
		t.Errorf("another state: note %q, error %d", note, errno)
	}
	checkWhole(t, "another state", b, "/", "w", "-1 -1 -1")
	if l, errno := b.Damaged(); len(l) != 1 || l[0].Name != "v" || len(l[0].Index) != 1 || l[0].Index[0] != 1 || errno != api.OK {
		t.Errorf("a chunk of other bytes: %v, error %d", l, errno)
	}
}

// A schema whose variables have no fill is that of no archive.
func TestOpenOfNoPipeline(t *testing.T) {
	for _, stages := range [][]api.Stage{{{Kind: api.StageDict, N: 1}}, {{Kind: api.StageDict}, {Kind: api.StageRound, Step: "1"}}, {{Kind: api.StageRound, Step: "40000"}}, {{Kind: api.StagePack}}} {
		d, _ := made(t, 60, 2)
		s, errno := schema.Apply(schema.Empty(), api.Change{Kind: api.AddVar, Path: "/", Var: api.Var{Name: "v", Type: api.TypeI16, Fill: "32767", Stages: stages}})
		checkErrno(t, "Apply", errno, api.OK)
		b, errno := schema.Encode(s, 2)
		checkErrno(t, "Encode", errno, api.OK)
		put(t, d, map[string][]byte{"schema": b})
		refusedOpen(t, "with a wrong pipeline", d, api.ErrStore)
	}
}
