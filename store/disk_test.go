package store_test

import (
	"bytes"
	"math"
	"slices"
	"testing"

	"arrayarchive/api"
	"arrayarchive/store"
)

// P5.1

func TestNewDisk(t *testing.T) {
	for _, n := range []int{4, 5, 100, 1023, 1024} {
		d := newDisk(t, n)
		if d.Blocks() != n || d.Down() || d.Pending() != 0 || !bytes.Equal(read(t, d), make([]byte, n*256)) {
			t.Errorf("NewDisk(%d): %d blocks", n, d.Blocks())
		}
	}
	for _, n := range []int{math.MinInt, -4, -1, 0, 1, 3, 1025, math.MaxInt} {
		if d, errno := store.NewDisk(n); d != nil || errno != api.ErrArg {
			t.Errorf("NewDisk(%d): error %d", n, errno)
		}
	}
}

// P5.2

func TestWriteAndRead(t *testing.T) {
	d := newDisk(t, 4)
	arg := filled(256, 1)
	write(t, d, 3, arg)
	arg[0]++ // it is not kept
	write(t, d, 1, filled(256, 2))
	write(t, d, 1, filled(256, 3))
	want := slices.Concat(make([]byte, 256), filled(256, 3), make([]byte, 256), filled(256, 1))
	if !bytes.Equal(read(t, d), want) || d.Pending() != 3 {
		t.Errorf("behind writes, %d pending ones", d.Pending())
	}
	checkErrno(t, "Sync", d.Sync(), api.OK)
	if !bytes.Equal(read(t, d), want) || d.Pending() != 0 {
		t.Errorf("behind Sync, %d pending writes", d.Pending())
	}
	b, _ := d.Read(1)
	b[0]++ // a result is new memory
	if !bytes.Equal(read(t, d), want) {
		t.Error("a result lies in the memory of the disk")
	}
	d.Crash(nil)
	if !bytes.Equal(read(t, d), want) {
		t.Error("what was durable is lost")
	}
	checkErrno(t, "Sync of nothing", d.Sync(), api.OK)
}

// A capacity that is greater than the length is not looked at.
func TestWriteLength(t *testing.T) {
	d := newDisk(t, 4)
	for _, n := range []int{0, 1, 255, 257, 512} {
		for _, i := range []int{-1, 0, 3, 4} {
			checkErrno(t, "Write of a wrong length", d.Write(i, make([]byte, 600)[:n]), api.ErrBlock)
		}
	}
	checkErrno(t, "Write of nil", d.Write(0, nil), api.ErrBlock)
	checkErrno(t, "Write", d.Write(0, make([]byte, 600)[:256]), api.OK)
}

func TestDiskErrors(t *testing.T) {
	good := make([]byte, 256)
	d := newDisk(t, 5)
	for _, i := range []int{math.MinInt, -1, 5, 6, 1 << 20, math.MaxInt} {
		checkErrno(t, "Write", d.Write(i, good), api.ErrBlock)
		b, errno := d.Read(i)
		if b != nil {
			t.Error("Read returns bytes with an error")
		}
		checkErrno(t, "Read", errno, api.ErrBlock)
		for _, at := range []int{-1, 0, 256} {
			checkErrno(t, "Spoil", d.Spoil(i, at, 1), api.ErrBlock)
		}
	}
	for _, at := range []int{math.MinInt, -1, 256, math.MaxInt} {
		checkErrno(t, "Spoil", d.Spoil(4, at, 1), api.ErrArg)
	}
	if d.Pending() != 0 || !bytes.Equal(read(t, d), make([]byte, 5*256)) {
		t.Error("a call with an error has an effect")
	}
	down := newDisk(t, 5)
	down.Arm(1)
	down.Sync()
	for name, d := range map[string]*store.Disk{"nil": nil, "zero": {}, "down": down} {
		if !d.Down() {
			t.Errorf("%s: not down", name)
		}
		for _, i := range []int{-1, 0, 4, 5} {
			checkErrno(t, name+": Write", d.Write(i, good), api.ErrDown)
			checkErrno(t, name+": Write", d.Write(i, nil), api.ErrDown)
			_, errno := d.Read(i)
			checkErrno(t, name+": Read", errno, api.ErrDown)
			checkErrno(t, name+": Spoil", d.Spoil(i, 0, 1), api.ErrDown)
			checkErrno(t, name+": Spoil", d.Spoil(i, -1, 1), api.ErrDown)
		}
		checkErrno(t, name+": Sync", d.Sync(), api.ErrDown)
	}
}

// R7
func TestZeroDisk(t *testing.T) {
	for name, d := range map[string]*store.Disk{"nil": nil, "zero": {}} {
		d.Arm(1)
		d.Crash([]bool{true})
		d.Crash(nil)
		if d.Blocks() != 0 || d.Pending() != 0 || !d.Down() || d.Copy() != nil {
			t.Errorf("%s: %d blocks, %d pending writes", name, d.Blocks(), d.Pending())
		}
		checkErrno(t, name+": Sync", d.Sync(), api.ErrDown)
		if s, errno := store.Format(d); s != nil || errno != api.ErrDown {
			t.Errorf("%s: Format: error %d", name, errno)
		}
		if s, errno := store.Open(d); s != nil || errno != api.ErrDown {
			t.Errorf("%s: Open: error %d", name, errno)
		}
	}
}

// P5.3

func TestArm(t *testing.T) {
	for n := 1; n <= 6; n++ {
		d := newDisk(t, 4)
		d.Arm(n)
		for k := 1; k < n; k++ {
			// What has an error does not count, nor does any other call.
			checkErrno(t, "Write", d.Write(4, filled(256, k)), api.ErrBlock)
			checkErrno(t, "Write", d.Write(0, nil), api.ErrBlock)
			read(t, d)
			checkErrno(t, "Spoil", d.Spoil(3, 0, 1), api.OK)
			d.Copy()
			if k%3 == 0 {
				checkErrno(t, "Sync", d.Sync(), api.OK)
			} else {
				write(t, d, 1, filled(256, k))
			}
		}
		pending, before := d.Pending(), read(t, d)
		if d.Down() {
			t.Fatalf("Arm(%d): down too early", n)
		}
		if n%2 == 0 {
			checkErrno(t, "the call that fails", d.Sync(), api.ErrDown)
		} else {
			checkErrno(t, "the call that fails", d.Write(1, filled(256, 77)), api.ErrDown)
		}
		if !d.Down() || d.Pending() != pending || d.Blocks() != 4 {
			t.Errorf("Arm(%d): %d pending writes, want %d", n, d.Pending(), pending)
		}
		d.Crash([]bool{true, true, true, true, true, true})
		if d.Down() || !bytes.Equal(read(t, d), before) {
			t.Errorf("Arm(%d): the call that failed was carried out", n)
		}
		// Nothing is armed any more.
		for range 10 {
			write(t, d, 1, before[:256])
			checkErrno(t, "Sync", d.Sync(), api.OK)
		}
	}
}

func TestArmAgain(t *testing.T) {
	for _, n := range []int{0, -1, math.MinInt} {
		d := newDisk(t, 4)
		d.Arm(1)
		d.Arm(n)
		for range 5 {
			checkErrno(t, "Sync, not armed", d.Sync(), api.OK)
		}
	}
	d := newDisk(t, 4)
	d.Arm(math.MaxInt)
	for range 100 {
		checkErrno(t, "Sync, armed for a later call", d.Sync(), api.OK)
	}
	d.Arm(5)
	checkErrno(t, "the first call", d.Sync(), api.OK)
	d.Arm(2) // counts from now on
	checkErrno(t, "the second call", d.Sync(), api.OK)
	checkErrno(t, "the third call", d.Sync(), api.ErrDown)
	// What is armed while the disk is down does not last.
	d.Arm(1)
	d.Crash(nil)
	checkErrno(t, "behind Crash", d.Sync(), api.OK)
	d.Arm(1)
	d.Crash(nil)
	checkErrno(t, "behind Crash of a disk that is up", d.Sync(), api.OK)
}

// P5.4

func TestCrash(t *testing.T) {
	places := []int{1, 2, 1, 3, 1, 2}
	for n := range len(places) + 3 {
		for _, keep := range every(n) {
			for _, goesDown := range []bool{false, true} {
				d := newDisk(t, 4)
				want := make([][]byte, 4)
				for i := range want {
					want[i] = filled(256, 50+i)
					write(t, d, i, want[i])
				}
				d.Sync()
				for k, i := range places {
					write(t, d, i, filled(256, k))
					if k < n && keep[k] {
						want[i] = filled(256, k)
					}
				}
				if goesDown {
					d.Arm(1)
					d.Write(0, filled(256, 99))
				}
				d.Crash(keep)
				if d.Pending() != 0 || d.Down() || !bytes.Equal(read(t, d), slices.Concat(want...)) {
					t.Fatalf("Crash(%v), down %v: wrong bytes", keep, goesDown)
				}
				d.Crash([]bool{true, true, true, true, true, true})
				if !bytes.Equal(read(t, d), slices.Concat(want...)) {
					t.Fatalf("Crash(%v): a lost write comes back", keep)
				}
			}
		}
	}
}

// P5.5

func TestSpoil(t *testing.T) {
	d := newDisk(t, 4)
	write(t, d, 1, filled(256, 1))
	d.Sync()
	checkErrno(t, "Spoil", d.Spoil(1, 0, 0x81), api.OK)
	checkErrno(t, "Spoil", d.Spoil(1, 255, 0xff), api.OK)
	checkErrno(t, "Spoil", d.Spoil(0, 7, 3), api.OK)
	checkErrno(t, "Spoil", d.Spoil(0, 7, 1), api.OK)
	checkErrno(t, "Spoil by nothing", d.Spoil(2, 7, 0), api.OK)
	want := make([]byte, 4*256)
	copy(want[256:], filled(256, 1))
	want[256] ^= 0x81
	want[511] ^= 0xff
	want[7] = 2
	for range 2 {
		if !bytes.Equal(read(t, d), want) {
			t.Error("Spoil: wrong bytes")
		}
		d.Crash(nil) // it is durable
	}
}

func TestSpoilPending(t *testing.T) {
	for _, keep := range every(3) {
		d := newDisk(t, 4)
		write(t, d, 2, filled(256, 1))
		write(t, d, 1, filled(256, 2))
		write(t, d, 2, filled(256, 3))
		write(t, d, 3, filled(256, 4))
		write(t, d, 1, filled(256, 5))
		checkErrno(t, "Spoil", d.Spoil(2, 9, 1), api.OK)
		if d.Pending() != 3 {
			t.Fatalf("%d pending writes", d.Pending())
		}
		spoilt := filled(256, 3)
		spoilt[9] ^= 1
		want := [][]byte{make([]byte, 256), filled(256, 5), spoilt, filled(256, 4)}
		if !bytes.Equal(read(t, d), slices.Concat(want...)) {
			t.Error("Spoil of a pending write: wrong bytes")
		}
		d.Crash(keep)
		want[1], want[3] = make([]byte, 256), make([]byte, 256)
		if keep[0] {
			want[1] = filled(256, 2)
		}
		if keep[1] {
			want[3] = filled(256, 4)
		}
		if keep[2] {
			want[1] = filled(256, 5)
		}
		if !bytes.Equal(read(t, d), slices.Concat(want...)) {
			t.Errorf("Crash(%v) behind Spoil: wrong bytes", keep)
		}
	}
}

func TestCopy(t *testing.T) {
	d := newDisk(t, 4)
	write(t, d, 1, filled(256, 1))
	d.Sync()
	for i := range 5 {
		write(t, d, 1, filled(256, 2+i))
	}
	d.Arm(3)
	// Each of two copies does what the disk would do, while the others do something else.
	a, b := d.Copy(), d.Copy()
	write(t, d, 1, filled(256, 8))
	checkErrno(t, "Spoil", d.Spoil(1, 0, 1), api.OK)
	checkErrno(t, "Sync", d.Sync(), api.OK)
	checkErrno(t, "Sync", d.Sync(), api.ErrDown)
	copies := []*store.Disk{a, b}
	for i, c := range copies {
		want := slices.Concat(make([]byte, 256), filled(256, 6), make([]byte, 512))
		if c.Blocks() != 4 || c.Pending() != 5 || c.Down() || !bytes.Equal(read(t, c), want) {
			t.Fatalf("copy %d is not like the disk", i)
		}
	}
	for i, c := range copies {
		write(t, c, 2, filled(256, 10+i))
		write(t, c, 3, filled(256, 20+i))
	}
	for i, c := range copies {
		checkErrno(t, "Sync", c.Sync(), api.ErrDown)
		down := c.Copy()
		if !down.Down() || down.Pending() != 7 || down.Blocks() != 4 {
			t.Errorf("the copy of copy %d, which is down", i)
		}
		down.Crash(nil)
		if down.Down() || !c.Down() {
			t.Errorf("Crash of the copy of copy %d", i)
		}
	}
	a.Crash([]bool{true, true, false, false, false, true, true})
	b.Crash([]bool{false, false, false, false, false, true})
	if !bytes.Equal(read(t, a), slices.Concat(make([]byte, 256), filled(256, 3), filled(256, 10), filled(256, 20))) {
		t.Error("Crash of the copy 0")
	}
	if !bytes.Equal(read(t, b), slices.Concat(make([]byte, 256), filled(256, 1), filled(256, 11), make([]byte, 256))) {
		t.Error("Crash of the copy 1")
	}
}

// modelDisk is a disk as a list of all that was done.
type modelDisk struct {
	blocks  [][]byte
	pending []modelWrite
	calls   int // until one fails
	down    bool
}

type modelWrite struct {
	i int
	b []byte
}

func (m *modelDisk) read(i int) []byte {
	for _, w := range slices.Backward(m.pending) {
		if w.i == i {
			return w.b
		}
	}
	return m.blocks[i]
}

// settle takes the pending writes that are chosen out of the list, and carries those out that are kept.
func (m *modelDisk) settle(chosen, kept func(k int, w modelWrite) bool) {
	var left []modelWrite
	for k, w := range m.pending {
		switch {
		case !chosen(k, w):
			left = append(left, w)
		case kept(k, w):
			m.blocks[w.i] = w.b
		}
	}
	m.pending = left
}

func (m *modelDisk) call() api.Errno {
	if m.down {
		return api.ErrDown
	}
	m.calls--
	m.down = m.calls == 0
	if m.down {
		return api.ErrDown
	}
	return api.OK
}

func TestDiskByModel(t *testing.T) {
	all := func(k int, w modelWrite) bool { return true }
	for seed := range uint64(200) {
		r := newRandom(seed)
		d := newDisk(t, 5)
		m := &modelDisk{blocks: slices.Repeat([][]byte{make([]byte, 256)}, 5)}
		for range 200 {
			i := r.IntN(5)
			switch r.IntN(9) {
			case 0, 1, 2, 3:
				b := filled(256, r.IntN(1000))
				want := m.call()
				if want == api.OK {
					m.pending = append(m.pending, modelWrite{i, b})
				}
				checkErrno(t, "Write", d.Write(i, b), want)
			case 4:
				want := m.call()
				if want == api.OK {
					m.settle(all, all)
				}
				checkErrno(t, "Sync", d.Sync(), want)
			case 5:
				at, by := r.IntN(256), byte(r.IntN(256))
				if m.down {
					checkErrno(t, "Spoil", d.Spoil(i, at, by), api.ErrDown)
					continue
				}
				checkErrno(t, "Spoil", d.Spoil(i, at, by), api.OK)
				m.settle(func(k int, w modelWrite) bool { return w.i == i }, all)
				m.blocks[i] = slices.Clone(m.blocks[i])
				m.blocks[i][at] ^= by
			case 6:
				m.calls = r.IntN(20)
				d.Arm(m.calls)
			case 7:
				keep := pick(r, every(4))[:r.IntN(5)]
				d.Crash(keep)
				m.settle(all, func(k int, w modelWrite) bool { return k < len(keep) && keep[k] })
				m.calls, m.down = 0, false
			case 8:
				d = d.Copy()
			}
			if d.Down() != m.down || d.Pending() != len(m.pending) {
				t.Fatalf("seed %d: down %v, %d pending writes", seed, d.Down(), d.Pending())
			}
			if m.down {
				continue
			}
			for i := range m.blocks {
				if b, errno := d.Read(i); errno != api.OK || !bytes.Equal(b, m.read(i)) {
					t.Fatalf("seed %d: Read(%d): error %d", seed, i, errno)
				}
			}
		}
	}
}
