package store

import (
	"arrayarchive/api"
	"arrayarchive/codec"
)

// A block of a store holds a page: a head with its kind, generation, place, part and next place, then its data, and then the checksum of all of this.
const (
	generationSize = 4
	shortSize      = 2 // of the other numbers in a head
	headSize       = generationSize + 4*shortSize
	sumSize        = 4
	dataSize       = api.MaxBlock - headSize - sumSize
)

// Kinds of pages.
const (
	blankKind = iota
	rootKind
	indexKind
	valueKind
)

// label says what a page is for. A block that was written for anything else does not have it.
type label struct {
	kind       int
	generation int // that of the commit that wrote it
	place      int
	part       int // of a value or an index, from 0 on
}

type page struct {
	label
	next int // the place of the next part; in a root, of the index's first one
	data []byte
}

// blocksOf returns the number of blocks that n bytes occupy.
func blocksOf(n int) int {
	return (n + dataSize - 1) / dataSize
}

// appendNumber appends the lowest n bytes of a number, the most significant one first.
func appendNumber(b []byte, x, n int) []byte {
	for i := n - 1; i >= 0; i-- {
		b = append(b, byte(x>>(8*i)))
	}
	return b
}

// number returns the number for which bytes stand.
func number(b []byte) int {
	x := 0
	for _, c := range b {
		x = x<<8 | int(c)
	}
	return x
}

// block returns the bytes of a block that holds a page.
func (p page) block() []byte {
	b := appendNumber(nil, p.kind, shortSize)
	b = appendNumber(b, p.generation, generationSize)
	b = appendNumber(b, p.place, shortSize)
	b = appendNumber(b, p.part, shortSize)
	b = appendNumber(b, p.next, shortSize)
	b = append(b, p.data...)
	b = append(b, make([]byte, dataSize-len(p.data))...)
	return appendNumber(b, int(codec.Checksum(b)), sumSize)
}

// readPage returns the page that a block holds, and whether it holds one.
func readPage(d *Disk, place int) (page, bool) {
	b, errno := d.Read(place)
	if errno != api.OK {
		return page{}, false
	}
	rest := b[:headSize+dataSize]
	if codec.Checksum(rest) != uint32(number(b[len(rest):])) {
		return page{}, false
	}
	take := func(n int) int {
		x := number(rest[:n])
		rest = rest[n:]
		return x
	}
	var p page
	p.kind = take(shortSize)
	p.generation = take(generationSize)
	p.place = take(shortSize)
	p.part = take(shortSize)
	p.next = take(shortSize)
	p.data = rest
	return p, p.place == place
}

// readLabelled returns the page with a label, and whether it is there.
func readLabelled(d *Disk, want label) (page, bool) {
	p, ok := readPage(d, want.place)
	if !ok || p.label != want {
		return page{}, false
	}
	return p, true
}

// pagesOf returns pages with the parts of data, one for each place.
func pagesOf(kind, generation int, data []byte, places []int) []page {
	pages := make([]page, len(places))
	for part, place := range places {
		size := min(len(data), dataSize)
		pages[part] = page{label: label{kind, generation, place, part}, data: data[:size]}
		if part > 0 {
			pages[part-1].next = place
		}
		data = data[size:]
	}
	return pages
}

// blank returns a page that holds nothing.
func blank(place int) page {
	return page{label: label{kind: blankKind, place: place}}
}

// writeDurably writes pages, and makes them durable before it returns.
func writeDurably(d *Disk, pages []page) api.Errno {
	if len(pages) == 0 {
		return api.OK
	}
	for _, p := range pages {
		if errno := d.Write(p.place, p.block()); errno != api.OK {
			return errno
		}
	}
	return d.Sync()
}
