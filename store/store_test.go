package store_test

import (
	"bytes"
	"slices"
	"strings"
	"testing"

	"arrayarchive/api"
	"arrayarchive/store"
)

// P5.6

func TestFormat(t *testing.T) {
	garbage := func(d *store.Disk) {
		for i := range d.Blocks() {
			d.Write(i, filled(256, i))
		}
	}
	for name, held := range map[string]func(d *store.Disk){
		"nothing":         func(d *store.Disk) {},
		"pending garbage": garbage,
		"garbage":         func(d *store.Disk) { garbage(d); d.Sync() },
		"a store":         func(d *store.Disk) { store.Format(d) },
		"a store with generation 1": func(d *store.Disk) {
			commit(t, format(t, d), values{"a": filled(300, 1)})
		},
		"a store with generation 2": func(d *store.Disk) {
			s := format(t, d)
			commit(t, s, values{"a": filled(300, 1)})
			commit(t, s, values{"b": filled(300, 2)})
		},
		"a store with generation 7": func(d *store.Disk) {
			s := format(t, d)
			for range 7 {
				commit(t, s, values{"a": filled(300, 1)})
			}
		},
	} {
		d := newDisk(t, 20)
		held(d)
		s := format(t, d)
		checkState(t, name, s, 0, nil)
		checkFree(t, name, s, 17)
		if d.Pending() != 0 {
			t.Errorf("%s: %d pending writes", name, d.Pending())
		}
		c := d.Copy()
		for i := range 20 {
			// The elder store does not come back, whatever is damaged.
			c := d.Copy()
			for at := range 256 {
				c.Spoil(i, at, byte(1+at))
				if r, errno := store.Open(c); errno == api.OK {
					checkState(t, name+", damaged", r, 0, nil)
				} else {
					checkErrno(t, name+", damaged", errno, api.ErrStore)
				}
				c.Spoil(i, at, byte(1+at))
			}
		}
		d.Crash(nil)
		checkState(t, name+", opened", open(t, d), 0, nil)
		c.Crash(nil)
		r := open(t, c)
		commit(t, r, values{"x": nil})
		checkState(t, name+", with a key", open(t, c), 1, values{"x": nil})
	}
}

// Format may go down at each of its calls, and then be called again.
func TestFormatGoesDown(t *testing.T) {
	for n := 1; ; n++ {
		d, _ := made(t, 6)
		d.Arm(n)
		s, errno := store.Format(d)
		if errno == api.OK {
			break
		}
		checkErrno(t, "Format that goes down", errno, api.ErrDown)
		if s != nil || !d.Down() || n > 20 {
			t.Fatalf("Format, armed with %d", n)
		}
		for _, f := range []func(d *store.Disk) (*store.Store, api.Errno){store.Format, store.Open} {
			s, errno := f(d)
			if s != nil {
				t.Error("a store on a disk that is down")
			}
			checkErrno(t, "of a disk that is down", errno, api.ErrDown)
		}
		d.Crash(nil)
		checkState(t, "Format again", format(t, d), 0, nil)
	}
}

func TestOpen(t *testing.T) {
	d, s := made(t, 30)
	want := values{"a": filled(1000, 1), "b": nil, strings.Repeat("k", 64): filled(1, 2)}
	commit(t, s, want)
	commit(t, s, values{"c": filled(7, 7)})
	commit(t, s, nil, "c")
	for range 3 {
		r := open(t, d)
		checkState(t, "Open", r, 3, want)
		checkFree(t, "Open", r, freeOf(30, want))
		// No transaction is open, and nothing is pinned.
		checkErrno(t, "Commit", r.Commit(), api.ErrBusy)
		for range 16 {
			_, errno := r.Snapshot()
			checkErrno(t, "Snapshot", errno, api.OK)
		}
	}
	d.Crash(nil)
	checkState(t, "Open behind Crash", open(t, d), 3, want)
	checkState(t, "Open of a copy", open(t, d.Copy()), 3, want)
}

func TestOpenOfNoStore(t *testing.T) {
	d := newDisk(t, 9)
	for name, fill := range map[string]func(i int) []byte{
		"zeros":   func(i int) []byte { return make([]byte, 256) },
		"ones":    func(i int) []byte { return bytes.Repeat([]byte{255}, 256) },
		"garbage": func(i int) []byte { return filled(256, i) },
	} {
		for i := range 9 {
			write(t, d, i, fill(i))
		}
		s, errno := store.Open(d)
		if s != nil {
			t.Errorf("%s: a store", name)
		}
		checkErrno(t, name, errno, api.ErrStore)
		// R3: nothing of it has been made durable.
		if d.Pending() == 0 {
			t.Errorf("%s: Open has an effect", name)
		}
	}
}

// What Open finds is not lost in a crash, if somebody copied the blocks without a Sync.
func TestOpenOfPendingBlocks(t *testing.T) {
	d, s := made(t, 12)
	want := values{"a": filled(500, 1)}
	commit(t, s, want)
	c := newDisk(t, 12)
	for i := range 12 {
		b, _ := d.Read(i)
		write(t, c, i, b)
	}
	down := c.Copy()
	down.Arm(1)
	if s, errno := store.Open(down); errno == api.ErrDown && s != nil {
		t.Error("a store on a disk that went down")
	}
	checkState(t, "Open", open(t, c), 1, want)
	c.Crash(nil)
	checkState(t, "Open behind Crash", open(t, c), 1, want)
}

// An open store does not read its index again.
func TestIndexIsKnown(t *testing.T) {
	d, s := made(t, 40)
	want := values{"a": filled(500, 1), "b": filled(9, 2)}
	commit(t, s, want)
	for i := range 40 {
		// A damage of the blocks of the values is undone.
		c := d.Copy()
		r := open(t, c)
		p, _ := r.Snapshot()
		c.Spoil(i, 100, 1)
		keys, errno := r.Keys()
		checkErrno(t, "Keys", errno, api.OK)
		if !slices.Equal(keys, []string{"a", "b"}) || r.Generation() != 1 || r.Free() != freeOf(40, want) {
			t.Errorf("block %d is damaged: keys %q", i, keys)
		}
		damaged, _ := r.Damaged()
		if len(damaged) > 0 {
			continue
		}
		checkState(t, "with a damaged index", r, 1, want)
		checkState(t, "a snapshot with a damaged index", p, 1, want)
		commit(t, r, values{"c": nil})
		checkState(t, "behind a commit", open(t, c), 2, values{"a": want["a"], "b": want["b"], "c": nil})
	}
}

// P5.7

func TestKeysAndGet(t *testing.T) {
	_, s := made(t, 1024)
	want := values{}
	for i, key := range []string{"b", "a", "ab", "B", "\x00", "\xff\xfe", "é", " ", "a b\n", strings.Repeat("z", 64), strings.Repeat("z", 63)} {
		want[key] = filled(i*239, i)
	}
	checkState(t, "at first", s, 0, nil)
	commit(t, s, want)
	checkState(t, "behind the commit", s, 1, want)
	keys, _ := s.Keys()
	sorted := []string{"\x00", " ", "B", "a", "a b\n", "ab", "b", strings.Repeat("z", 63), strings.Repeat("z", 64), "é", "\xff\xfe"}
	if !slices.Equal(keys, sorted) {
		t.Errorf("Keys: %q", keys)
	}
	for _, key := range []string{"", "A", "ab ", "a\x00", strings.Repeat("z", 62), strings.Repeat("z", 65), strings.Repeat("z", 5000)} {
		b, errno := s.Get(key)
		checkErrno(t, "Get of no key", errno, api.ErrKey)
		if b != nil {
			t.Errorf("Get(%.70q): %d bytes", key, len(b))
		}
	}
	// They are of the committed state, also while a transaction is open.
	begin(t, s, values{"a": nil, "new": nil}, "b")
	checkState(t, "with notes", s, 1, want)
	checkFree(t, "with notes", s, freeOf(1024, want))
}

// R4
func TestStoreMemory(t *testing.T) {
	_, s := made(t, 20)
	value := append(filled(300, 1), "behind it"...)[:300]
	begin(t, s, nil)
	checkErrno(t, "Put", s.Put("a", value), api.OK)
	checkErrno(t, "Put", s.Put("b", value), api.OK)
	if !bytes.Equal(value, filled(300, 1)) || string(value[:309][300:]) != "behind it" {
		t.Error("Put changes its argument")
	}
	clear(value) // it is not kept
	checkErrno(t, "Commit", s.Commit(), api.OK)
	want := values{"a": filled(300, 1), "b": filled(300, 1)}
	checkState(t, "behind the commit", s, 1, want)
	p, _ := s.Snapshot()
	for _, x := range []reader{s, p} {
		b, _ := x.Get("a")
		b = b[:cap(b)]
		clear(b)
		keys, _ := x.Keys()
		keys[0] = "x"
		checkState(t, "with changed results", x, 1, want)
	}
}

// P5.8

func TestKeyLengths(t *testing.T) {
	_, s := made(t, 20)
	begin(t, s, nil)
	for n := range 70 {
		want := api.OK
		if n == 0 || n > 64 {
			want = api.ErrKey
		}
		key := strings.Repeat("k", n)
		checkErrno(t, "Put", s.Put(key, nil), want)
		if want == api.OK {
			checkErrno(t, "Delete", s.Delete(key), api.OK)
		}
		checkErrno(t, "Delete", s.Delete(key), api.ErrKey)
		checkErrno(t, "Put of too much", s.Put(key, make([]byte, 65537)), max(want, api.ErrLimit))
	}
	checkErrno(t, "Put", s.Put(strings.Repeat("k", 100000), nil), api.ErrKey)
}

func TestValueLengths(t *testing.T) {
	_, s := made(t, 1024)
	for _, n := range []int{0, 1, 239, 240, 241, 479, 480, 481, 65535, 65536} {
		want := values{"a": filled(n, n)}
		commit(t, s, want)
		checkState(t, "a length", s, s.Generation(), want)
		checkFree(t, "a length", s, freeOf(1024, want))
	}
	begin(t, s, nil)
	for _, n := range []int{65537, 65538, 1 << 20} {
		checkErrno(t, "Put of too much", s.Put("b", make([]byte, n)), api.ErrLimit)
		checkErrno(t, "Put of too much", s.Put("a", make([]byte, n)), api.ErrLimit)
		checkErrno(t, "Delete", s.Delete("b"), api.ErrKey) // it had no effect
	}
	checkErrno(t, "Commit", s.Commit(), api.OK)
	checkState(t, "behind them", s, 11, values{"a": filled(65536, 65536)})
}

// key returns a key of the greatest length.
func key(i int) string {
	return string(rune('A'+i/26%26)) + string(rune('A'+i%26)) + string(rune('A'+i/676)) + strings.Repeat("k", 61)
}

func TestManyKeys(t *testing.T) {
	d, s := made(t, 1024)
	want := values{}
	checkErrno(t, "Begin", s.Begin(), api.OK)
	for i := range 512 {
		want[key(i)] = filled(i%5, i)
		checkErrno(t, "Put", s.Put(key(i), want[key(i)]), api.OK)
	}
	full := func() {
		t.Helper()
		checkErrno(t, "Put of a key too many", s.Put("x", nil), api.ErrLimit)
		checkErrno(t, "Put of an invalid key", s.Put("", nil), api.ErrKey)
		checkErrno(t, "Delete of it", s.Delete("x"), api.ErrKey)
		checkErrno(t, "Put of a key again", s.Put(key(9), want[key(9)]), api.OK)
	}
	full()
	checkErrno(t, "Commit", s.Commit(), api.OK)
	checkState(t, "512 keys", s, 1, want)
	checkFree(t, "512 keys", s, freeOf(1024, want))
	checkState(t, "512 keys, opened", open(t, d), 1, want)

	checkErrno(t, "Begin", s.Begin(), api.OK)
	full()
	checkErrno(t, "Delete", s.Delete(key(3)), api.OK)
	checkErrno(t, "Put in its place", s.Put("x", nil), api.OK)
	checkErrno(t, "Put of it again", s.Put(key(3), nil), api.ErrLimit)
	checkErrno(t, "Delete in its place", s.Delete("x"), api.OK)
	checkErrno(t, "Put of it again", s.Put(key(3), want[key(3)]), api.OK)
	full()
	checkErrno(t, "Delete", s.Delete(key(4)), api.OK)
	checkErrno(t, "Abort", s.Abort(), api.OK)
	checkErrno(t, "Begin", s.Begin(), api.OK)
	full()
	// All keys go, and others come.
	for i := range 512 {
		checkErrno(t, "Delete", s.Delete(key(i)), api.OK)
	}
	others := values{}
	for i := range 512 {
		others[key(i)[3:]+key(i)[:2]] = nil // 3 keys are the same
		checkErrno(t, "Put", s.Put(key(i)[3:]+key(i)[:2], nil), api.OK)
	}
	checkErrno(t, "Commit", s.Commit(), api.OK)
	checkState(t, "other keys", open(t, d), 2, others)
}

func TestNotes(t *testing.T) {
	one, two := filled(10, 1), filled(300, 2)
	for _, c := range []struct {
		name string
		do   func(s *store.Store) api.Errno
		want values
	}{
		{"nothing", func(s *store.Store) api.Errno { return api.OK }, values{"a": one}},
		{"put", func(s *store.Store) api.Errno { return s.Put("b", two) }, values{"a": one, "b": two}},
		{"put of nothing", func(s *store.Store) api.Errno { return s.Put("b", nil) }, values{"a": one, "b": nil}},
		{"put in its place", func(s *store.Store) api.Errno { return s.Put("a", two) }, values{"a": two}},
		{"put twice", func(s *store.Store) api.Errno { s.Put("b", one); return s.Put("b", two) }, values{"a": one, "b": two}},
		{"delete", func(s *store.Store) api.Errno { return s.Delete("a") }, values{}},
		{"delete and put", func(s *store.Store) api.Errno { s.Delete("a"); return s.Put("a", two) }, values{"a": two}},
		{"put and delete", func(s *store.Store) api.Errno { s.Put("a", two); return s.Delete("a") }, values{}},
		{"put and delete of a new one", func(s *store.Store) api.Errno { s.Put("b", two); return s.Delete("b") }, values{"a": one}},
		{"put, delete and put", func(s *store.Store) api.Errno { s.Put("b", two); s.Delete("b"); return s.Put("b", one) }, values{"a": one, "b": one}},
		{"delete, put and delete", func(s *store.Store) api.Errno { s.Delete("a"); s.Put("a", two); return s.Delete("a") }, values{}},
	} {
		for _, ends := range []string{"commit", "abort", "crash"} {
			d, s := made(t, 20)
			commit(t, s, values{"a": one})
			before := read(t, d)
			begin(t, s, nil)
			checkErrno(t, c.name, c.do(s), api.OK)
			checkErrno(t, "Delete of none", s.Delete("none"), api.ErrKey)
			checkState(t, c.name+", open", s, 1, values{"a": one})
			checkFree(t, c.name+", open", s, freeOf(20, values{"a": one}))
			switch ends {
			case "commit":
				checkErrno(t, c.name, s.Commit(), api.OK)
				checkState(t, c.name, s, 2, c.want)
				checkFree(t, c.name, s, freeOf(20, c.want))
				checkErrno(t, "Begin", s.Begin(), api.OK)
				continue
			case "abort":
				checkErrno(t, c.name, s.Abort(), api.OK)
				commit(t, s, nil) // no note is left
				checkState(t, c.name+", ended", s, 2, values{"a": one})
			case "crash":
				d.Crash(nil)
				if !bytes.Equal(before, read(t, d)) {
					t.Errorf("%s: a note changes the disk", c.name)
				}
				checkState(t, c.name+", lost", open(t, d), 1, values{"a": one})
			}
		}
	}
}

// calls are all calls of a store that have an error; the keys are valid if good is true.
func calls(s *store.Store, good bool) map[string]api.Errno {
	key := ""
	if good {
		key = "a"
	}
	m := map[string]api.Errno{}
	_, m["Keys"] = s.Keys()
	_, m["Get"] = s.Get(key)
	_, m["Damaged"] = s.Damaged()
	_, m["Snapshot"] = s.Snapshot()
	m["Abort"] = s.Abort()
	m["Commit"] = s.Commit()
	m["Put"] = s.Put(key, nil)
	m["Put of too much"] = s.Put(key, make([]byte, 65537))
	m["Delete"] = s.Delete(key)
	m["Begin"] = s.Begin()
	return m
}

// P5.7 to P5.11, and R7
func TestDeadStores(t *testing.T) {
	goesDown := func(d *store.Disk) { d.Arm(1); d.Sync() }
	for name, kill := range map[string]func(d *store.Disk){
		"down":             goesDown,
		"down and crashed": func(d *store.Disk) { goesDown(d); d.Crash(nil) },
		"crashed":          func(d *store.Disk) { d.Crash(nil) },
		"crashed, and all is kept": func(d *store.Disk) {
			d.Crash([]bool{true, true, true, true})
		},
		"crashed twice":  func(d *store.Disk) { d.Crash(nil); d.Crash(nil) },
		"opened again":   func(d *store.Disk) { d.Crash(nil); store.Open(d) },
		"formatted anew": func(d *store.Disk) { d.Crash(nil); store.Format(d) },
	} {
		for _, inTransaction := range []bool{false, true} {
			d, s := made(t, 20)
			commit(t, s, values{"a": filled(3, 3)})
			if inTransaction {
				begin(t, s, values{"b": nil})
			}
			kill(d)
			checkDead(t, name, s)
		}
	}
	checkDead(t, "nil", nil)
	checkDead(t, "zero", &store.Store{})
}

func checkDead(t *testing.T, name string, s *store.Store) {
	t.Helper()
	if s.Generation() != 0 || s.Free() != 0 {
		t.Errorf("%s: generation %d, %d free blocks", name, s.Generation(), s.Free())
	}
	for _, good := range []bool{true, false} {
		for call, errno := range calls(s, good) {
			checkErrno(t, name+": "+call, errno, api.ErrDown)
		}
	}
	keys, _ := s.Keys()
	value, _ := s.Get("a")
	damaged, _ := s.Damaged()
	p, _ := s.Snapshot()
	if keys != nil || value != nil || damaged != nil || p != nil {
		t.Errorf("%s: a result with an error", name)
	}
}

// P5.8 and P5.9
func TestBusy(t *testing.T) {
	_, s := made(t, 20)
	commit(t, s, values{"a": nil})
	for range 2 {
		for _, good := range []bool{false, true} {
			checkErrno(t, "Abort", s.Abort(), api.ErrBusy)
			for call, errno := range calls(s, good) {
				switch call {
				case "Abort", "Commit", "Put", "Put of too much", "Delete":
					checkErrno(t, call+" without a transaction", errno, api.ErrBusy)
				case "Begin", "Keys", "Damaged", "Snapshot":
					checkErrno(t, call, errno, api.OK)
				}
			}
			checkErrno(t, "Begin of a second one", s.Begin(), api.ErrBusy)
			checkErrno(t, "Put", s.Put("b", nil), api.OK)
			checkErrno(t, "Begin of a second one", s.Begin(), api.ErrBusy)
			checkErrno(t, "Delete", s.Delete("b"), api.OK) // it had no effect
			checkErrno(t, "Abort", s.Abort(), api.OK)
			checkErrno(t, "Commit behind it", s.Commit(), api.ErrBusy)
		}
		begin(t, s, nil)
		checkErrno(t, "Commit", s.Commit(), api.OK)
	}
}

// P5.10

func TestSnapshots(t *testing.T) {
	d, s := made(t, 60)
	a, b := values{"a": filled(500, 1), "b": filled(100, 1)}, values{"b": filled(100, 1), "c": filled(900, 2)}
	zero, _ := s.Snapshot()
	commit(t, s, a)
	one, _ := s.Snapshot()
	begin(t, s, values{"c": b["c"]}, "a")
	also, _ := s.Snapshot() // it has none of the notes
	checkErrno(t, "Commit", s.Commit(), api.OK)
	two, _ := s.Snapshot()
	for range 20 {
		commit(t, s, values{"a": filled(700, 9), "b": filled(300, 9), "c": nil})
		checkState(t, "a snapshot of nothing", zero, 0, nil)
		checkState(t, "a snapshot", one, 1, a)
		checkState(t, "another one", also, 1, a)
		checkState(t, "a later one", two, 2, b)
	}
	checkErrno(t, "Release", one.Release(), api.OK)
	checkState(t, "another one", also, 1, a)
	checkErrno(t, "Release", also.Release(), api.OK)
	checkState(t, "a snapshot of nothing", zero, 0, nil)
	checkState(t, "a later one", two, 2, b)
	begin(t, s, values{"x": nil})
	checkErrno(t, "Abort", s.Abort(), api.OK)
	checkState(t, "a later one", two, 2, b)
	d.Crash(nil)
	checkState(t, "behind a crash", open(t, d), 22, values{"a": filled(700, 9), "b": filled(300, 9), "c": nil})
	checkErrno(t, "a call of a snapshot behind a crash", callSnapshot(two), api.ErrDown)
}

// callSnapshot returns the error of the calls of a snapshot, if it is the same, and they have no result.
func callSnapshot(p *store.Snapshot) api.Errno {
	keys, errno := p.Keys()
	for _, key := range []string{"a", ""} {
		b, second := p.Get(key)
		if second != errno || keys != nil || b != nil || p.Generation() != 0 {
			return -1
		}
	}
	return errno
}

func TestSnapshotErrors(t *testing.T) {
	for name, kill := range map[string]func(d *store.Disk){
		"down":    func(d *store.Disk) { d.Arm(1); d.Sync() },
		"crashed": func(d *store.Disk) { d.Crash(nil) },
		"opened":  func(d *store.Disk) { d.Crash(nil); store.Open(d) },
	} {
		d, s := made(t, 20)
		commit(t, s, values{"a": nil})
		released, _ := s.Snapshot()
		p, _ := s.Snapshot()
		checkErrno(t, "Release", released.Release(), api.OK)
		checkErrno(t, "a released snapshot", callSnapshot(released), api.ErrClosed)
		checkErrno(t, "Release again", released.Release(), api.ErrClosed)
		checkState(t, "the other snapshot", p, 1, values{"a": nil})
		kill(d)
		checkErrno(t, name+": a released snapshot", callSnapshot(released), api.ErrClosed)
		checkErrno(t, name+": a snapshot", callSnapshot(p), api.ErrDown)
		checkErrno(t, name+": Release", p.Release(), api.OK)
		checkErrno(t, name+": Release again", p.Release(), api.ErrClosed)
		checkErrno(t, name+": a released snapshot", callSnapshot(p), api.ErrClosed)
	}
	for name, p := range map[string]*store.Snapshot{"nil": nil, "zero": {}} {
		checkErrno(t, name, callSnapshot(p), api.ErrClosed)
		checkErrno(t, name+": Release", p.Release(), api.ErrClosed)
	}
}

func TestSnapshotLimit(t *testing.T) {
	d, s := made(t, 40)
	var pins []*store.Snapshot
	for i := range 16 {
		if i%3 == 0 {
			commit(t, s, values{"a": filled(i, i)})
		}
		p, errno := s.Snapshot()
		checkErrno(t, "Snapshot", errno, api.OK)
		pins = append(pins, p)
	}
	for range 3 {
		p, errno := s.Snapshot()
		checkErrno(t, "a snapshot too many", errno, api.ErrLimit)
		if p != nil {
			t.Error("a snapshot too many")
		}
	}
	for i, p := range pins {
		checkState(t, "a snapshot", p, i/3+1, values{"a": filled(i/3*3, i/3*3)})
		checkErrno(t, "Release", p.Release(), api.OK)
		checkErrno(t, "Release again", p.Release(), api.ErrClosed)
		q, errno := s.Snapshot()
		checkErrno(t, "Snapshot in its place", errno, api.OK)
		checkState(t, "a snapshot in its place", q, 6, values{"a": filled(15, 15)})
		_, errno = s.Snapshot()
		checkErrno(t, "a snapshot too many", errno, api.ErrLimit)
	}
	d.Arm(1)
	d.Sync()
	_, errno := s.Snapshot()
	checkErrno(t, "Snapshot of a disk that is down", errno, api.ErrDown)
	d.Crash(nil)
	s = open(t, d)
	for range 16 {
		_, errno := s.Snapshot()
		checkErrno(t, "Snapshot behind a crash", errno, api.OK)
	}
}
