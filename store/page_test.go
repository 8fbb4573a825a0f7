package store

import (
	"bytes"
	"math/rand/v2"
	"strings"
	"testing"

	"arrayarchive/api"
)

// R1: blocks with a right checksum may still hold anything.

// entryBytes returns an entry of an index.
func entryBytes(key string, size, generation int, places ...int) []byte {
	b := appendNumber(nil, len(key), lengthSize)
	b = appendNumber(b, size, sizeSize)
	b = appendNumber(b, generation, generationSize)
	b = append(b, key...)
	for _, place := range places {
		b = appendNumber(b, place, shortSize)
	}
	return b
}

// diskOf returns a disk with these pages, and with two parts of a value of 300 bytes at the places 8 and 9.
func diskOf(t *testing.T, pages ...page) *Disk {
	d, _ := NewDisk(10)
	value := pagesOf(valueKind, 4, bytes.Repeat([]byte{7}, 300), []int{8, 9})
	if errno := writeDurably(d, append(value, pages...)); errno != api.OK {
		t.Fatalf("error %d", errno)
	}
	return d
}

func root(generation, next, size int) page {
	return page{label{rootKind, generation, rootPlace(generation), 0}, next, appendNumber(nil, size, sizeSize)}
}

func TestPage(t *testing.T) {
	d := diskOf(t)
	for _, want := range []page{
		{label{rootKind, 1<<32 - 1, 0, 0}, 1<<16 - 1, bytes.Repeat([]byte{255}, dataSize)},
		{label{valueKind, 1 << 20, 9, 273}, 0, bytes.Repeat([]byte{1}, dataSize)},
		{label{indexKind, 0, 3, 1}, 1000, nil},
	} {
		if len(want.block()) != api.MaxBlock {
			t.Fatalf("a block of %d bytes", len(want.block()))
		}
		writeDurably(d, []page{want})
		data := make([]byte, dataSize)
		copy(data, want.data)
		got, ok := readPage(d, want.place)
		if !ok || got.label != want.label || got.next != want.next || !bytes.Equal(got.data, data) {
			t.Errorf("%v: %v", want.label, got.label)
		}
		if _, ok := readLabelled(d, want.label); !ok {
			t.Errorf("%v is not found", want.label)
		}
		if d.Write(2, want.block()); want.place != 2 {
			if _, ok := readPage(d, 2); ok {
				t.Errorf("%v is found at another place", want.label)
			}
		}
		for _, change := range []label{{kind: 1}, {generation: 1}, {part: 1}} {
			other := want.label
			other.kind += change.kind
			other.generation += change.generation
			other.part += change.part
			if _, ok := readLabelled(d, other); ok {
				t.Errorf("%v is found", other)
			}
		}
	}
	for _, place := range []int{-1, 1, 2, 10, 1 << 20} {
		if _, ok := readPage(d, place); ok {
			t.Errorf("a page at %d", place)
		}
	}
}

func TestOpenOfPages(t *testing.T) {
	index := entryBytes("a", 300, 4, 8, 9)
	d := diskOf(t, append(pagesOf(indexKind, 5, index, []int{3}), root(5, 3, len(index)))...)
	s, errno := Open(d)
	if errno != api.OK || s.Generation() != 5 || s.Free() != 5 {
		t.Fatalf("Open: error %d", errno)
	}
	if b, errno := s.Get("a"); errno != api.OK || !bytes.Equal(b, bytes.Repeat([]byte{7}, 300)) {
		t.Errorf("Get: %d bytes, error %d", len(b), errno)
	}
	for name, index := range map[string][]byte{
		"a key of no bytes":             entryBytes("", 300, 4, 8, 9),
		"a key of 65 bytes":             entryBytes(strings.Repeat("k", 65), 300, 4, 8, 9),
		"a place too few":               entryBytes("a", 300, 4, 8),
		"a byte too many":               append(entryBytes("a", 300, 4, 8, 9), 0),
		"a value of a later commit":     entryBytes("a", 300, 6, 8, 9),
		"half an entry":                 entryBytes("a", 300, 4, 8, 9)[:7],
		"the place of a root":           entryBytes("a", 300, 4, 8, 1),
		"the place of the index":        entryBytes("a", 300, 4, 8, 3),
		"a place that is not there":     entryBytes("a", 300, 4, 8, 10),
		"a place that is not there too": entryBytes("a", 300, 4, 8, 65535),
		"a place twice":                 entryBytes("a", 300, 4, 8, 8),
		"a place of two keys":           append(entryBytes("a", 300, 4, 8, 9), entryBytes("b", 1, 4, 9)...),
		"a key twice":                   append(entryBytes("a", 300, 4, 8, 9), entryBytes("a", 0, 4)...),
		"keys in descending order":      append(entryBytes("b", 300, 4, 8, 9), entryBytes("a", 0, 4)...),
	} {
		places := []int{3, 4, 5}[:indexBlocks(len(index))]
		d := diskOf(t, append(pagesOf(indexKind, 5, index, places), root(5, 3, len(index)))...)
		if s, errno := Open(d); s != nil || errno != api.ErrStore {
			t.Errorf("%s: error %d", name, errno)
		}
	}
	for name, root := range map[string]page{
		"an index that is not there":    root(5, 10, len(index)),
		"an index in a root":            root(5, 1, len(index)),
		"an index in a value":           root(5, 8, len(index)),
		"an index in an empty block":    root(5, 4, len(index)),
		"an index that is too short":    root(5, 3, len(index)-1),
		"an index that is too long":     root(5, 3, len(index)+1),
		"an index without an end":       root(5, 3, 1<<24-1),
		"an index of another commit":    root(4, 3, len(index)),
		"a root at a place of no root":  {label{rootKind, 5, 2, 0}, 3, root(5, 3, len(index)).data},
		"another kind of page in place": {label{indexKind, 5, 1, 0}, 3, root(5, 3, len(index)).data},
	} {
		d := diskOf(t, append(pagesOf(indexKind, 5, index, []int{3}), root)...)
		if s, errno := Open(d); s != nil || errno != api.ErrStore {
			t.Errorf("%s: error %d", name, errno)
		}
	}
}

func TestParseIndex(t *testing.T) {
	for _, size := range []int{0, 1, 240, 241, api.MaxBytes - 1, api.MaxBytes, api.MaxBytes + 1, 1<<24 - 1} {
		entries, ok := parseIndex(entryBytes("a", size, 4, make([]int, blocksOf(size))...))
		if ok != (size <= api.MaxBytes) || ok && entries["a"].size != size {
			t.Errorf("an index with a value of %d bytes: %v", size, ok)
		}
	}
}

// An index with more keys than a state may have.
func TestOpenOfManyKeys(t *testing.T) {
	for n := 511; n <= 513; n++ {
		var index []byte
		for i := range n {
			index = append(index, entryBytes(string([]byte{byte(i / 256), byte(i)}), 0, 1)...)
		}
		var places []int
		for i := range indexBlocks(len(index)) {
			places = append(places, 30-i)
		}
		d, _ := NewDisk(40)
		writeDurably(d, append(pagesOf(indexKind, 5, index, places), root(5, 30, len(index))))
		s, errno := Open(d)
		if (errno == api.OK) != (n <= api.MaxKeys) || errno == api.OK && s.Free() != 38-len(places) {
			t.Errorf("%d keys: error %d", n, errno)
		}
	}
}

// Nothing panics, or does not end, for any pages.
func TestAnyPages(t *testing.T) {
	r := rand.New(rand.NewPCG(5, 5))
	opened := 0
	for range 20000 {
		var pages []page
		for range 4 {
			generation := r.IntN(2)
			var index []byte
			for i := range r.IntN(3) {
				index = append(index, entryBytes(strings.Repeat("k", r.IntN(2)+i), r.IntN(300), r.IntN(2), r.IntN(11), r.IntN(11))...)
			}
			pages = append(pages, pagesOf(1+r.IntN(3), generation, index, []int{2 + r.IntN(4), 6})...)
			pages = append(pages, root(generation, 2+r.IntN(4), len(index)))
		}
		d := diskOf(t, pages...)
		s, errno := Open(d)
		if errno != api.OK {
			continue
		}
		opened++
		keys, _ := s.Keys()
		for _, key := range keys {
			if _, errno := s.Get(key); errno != api.OK && errno != api.ErrStore {
				t.Fatalf("Get: error %d", errno)
			}
		}
		s.Begin()
		s.Put("x", make([]byte, 300))
		if errno := s.Commit(); errno != api.OK && errno != api.ErrFull {
			t.Fatalf("Commit: error %d", errno)
		}
	}
	if opened < 100 {
		t.Errorf("%d disks hold a store", opened)
	}
}
