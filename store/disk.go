package store

import (
	"slices"

	"arrayarchive/api"
)

type block [api.MaxBlock]byte

// write is a write that is pending.
type write struct {
	place   int
	content block
}

// Disk has blocks, whose writes are lost when the power fails unless they were made durable.
type Disk struct {
	latest  []block // as they are read
	durable []block // as they are behind a loss of all that is pending
	pending []write
	armed   int // the number of the call from now on that will fail, or 0
	down    bool
	crashes int
}

// NewDisk returns a disk whose blocks are all zero bytes.
func NewDisk(blocks int) (*Disk, api.Errno) {
	if blocks < minBlocks || blocks > api.MaxBlocks {
		return nil, api.ErrArg
	}
	return &Disk{latest: make([]block, blocks), durable: make([]block, blocks)}, api.OK
}

// isMade reports whether a disk is neither nil nor a zero value.
func (d *Disk) isMade() bool {
	return d != nil && len(d.latest) > 0
}

// Blocks returns the number of blocks.
func (d *Disk) Blocks() int {
	if !d.isMade() {
		return 0
	}
	return len(d.latest)
}

// Down reports whether a disk is down.
func (d *Disk) Down() bool {
	return !d.isMade() || d.down
}

// check returns the error of a call that concerns block i.
func (d *Disk) check(i int) api.Errno {
	if d.Down() {
		return api.ErrDown
	}
	if i < 0 || i >= len(d.latest) {
		return api.ErrBlock
	}
	return api.OK
}

// fails counts a call that would be carried out, and lets the disk go down if it is the one that is armed.
func (d *Disk) fails() bool {
	if d.armed == 0 {
		return false
	}
	d.armed--
	d.down = d.armed == 0
	return d.down
}

// Write writes block i.
func (d *Disk) Write(i int, b []byte) api.Errno {
	if errno := d.check(i); errno != api.OK {
		return errno
	}
	if len(b) != api.MaxBlock {
		return api.ErrBlock
	}
	if d.fails() {
		return api.ErrDown
	}
	w := write{place: i}
	copy(w.content[:], b)
	d.pending = append(d.pending, w)
	d.latest[i] = w.content
	return api.OK
}

// Read returns the bytes of block i.
func (d *Disk) Read(i int) ([]byte, api.Errno) {
	if errno := d.check(i); errno != api.OK {
		return nil, errno
	}
	return slices.Clone(d.latest[i][:]), api.OK
}

// Sync makes all pending writes durable.
func (d *Disk) Sync() api.Errno {
	if d.Down() || d.fails() {
		return api.ErrDown
	}
	for _, w := range d.pending {
		d.durable[w.place] = w.content
	}
	d.pending = nil
	return api.OK
}

// Pending returns the number of pending writes.
func (d *Disk) Pending() int {
	if !d.isMade() {
		return 0
	}
	return len(d.pending)
}

// Arm lets the n-th call of Write or Sync from now on fail, or none if n is less than 1.
func (d *Disk) Arm(n int) {
	if d.isMade() {
		d.armed = max(n, 0)
	}
}

// Crash is a loss of power, which loses the pending writes but those that are kept.
func (d *Disk) Crash(keep []bool) {
	if !d.isMade() {
		return
	}
	for k, w := range d.pending {
		if k < len(keep) && keep[k] {
			d.durable[w.place] = w.content
		}
	}
	copy(d.latest, d.durable)
	d.pending = nil
	d.armed = 0
	d.down = false
	d.crashes++
}

// Spoil exclusive-ors a byte of block i.
func (d *Disk) Spoil(i, at int, by byte) api.Errno {
	if errno := d.check(i); errno != api.OK {
		return errno
	}
	if at < 0 || at >= api.MaxBlock {
		return api.ErrArg
	}
	d.pending = slices.DeleteFunc(d.pending, func(w write) bool { return w.place == i })
	d.latest[i][at] ^= by
	d.durable[i] = d.latest[i]
	return api.OK
}

// Copy returns a disk that is independent of d and behaves like it.
func (d *Disk) Copy() *Disk {
	if !d.isMade() {
		return nil
	}
	c := *d
	c.latest = slices.Clone(d.latest)
	c.durable = slices.Clone(d.durable)
	c.pending = slices.Clone(d.pending)
	return &c
}
