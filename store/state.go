package store

import (
	"iter"
	"maps"
	"slices"

	"arrayarchive/api"
)

// The index of a state has, for each key, the length of the key, the size of its value, the generation that wrote it, the key, and the places of the value.
const (
	lengthSize = 1 // of the length of a key
	sizeSize   = 3 // of the size of a value or an index
	entrySize  = lengthSize + sizeSize + generationSize
)

// entry says where a value is.
type entry struct {
	size       int
	generation int // that of the commit that wrote it
	places     []int
}

// state is a set of keys with their values. A committed one is not changed any more, as a store and its snapshots share it.
type state struct {
	generation int
	entries    map[string]entry
	index      []int // the places of the index
}

func (x state) keys() []string {
	return slices.Sorted(maps.Keys(x.entries))
}

// places returns an iterator over all places that a state occupies.
func (x state) places() iter.Seq[int] {
	return func(yield func(int) bool) {
		for _, place := range x.index {
			if !yield(place) {
				return
			}
		}
		for _, e := range x.entries {
			for _, place := range e.places {
				if !yield(place) {
					return
				}
			}
		}
	}
}

// get returns the value of a key.
func (x state) get(d *Disk, key string) ([]byte, api.Errno) {
	e, ok := x.entries[key]
	if !ok {
		return nil, api.ErrKey
	}
	var value []byte
	for part, place := range e.places {
		p, ok := readLabelled(d, label{valueKind, e.generation, place, part})
		if !ok {
			return nil, api.ErrStore
		}
		value = append(value, p.data...)
	}
	return value[:e.size], api.OK
}

// indexSize returns the number of bytes of the index of a state, whether or not its values have places yet.
func (x state) indexSize() int {
	size := 0
	for key, e := range x.entries {
		size += entrySize + len(key) + shortSize*blocksOf(e.size)
	}
	return size
}

// indexBlocks returns the number of blocks that an index of so many bytes occupies.
func indexBlocks(size int) int {
	return max(blocksOf(size), 1)
}

// need returns the number of blocks that the new values of a state and its index occupy.
func (x state) need() int {
	blocks := indexBlocks(x.indexSize())
	for _, e := range x.entries {
		if e.generation == x.generation {
			blocks += blocksOf(e.size)
		}
	}
	return blocks
}

// indexBytes returns the index of a state.
func (x state) indexBytes() []byte {
	var b []byte
	for _, key := range x.keys() {
		e := x.entries[key]
		b = appendNumber(b, len(key), lengthSize)
		b = appendNumber(b, e.size, sizeSize)
		b = appendNumber(b, e.generation, generationSize)
		b = append(b, key...)
		for _, place := range e.places {
			b = appendNumber(b, place, shortSize)
		}
	}
	return b
}

// parseEntry returns the key and the entry with which an index begins, and what is behind them.
func parseEntry(b []byte) (key string, e entry, rest []byte, ok bool) {
	if len(b) < entrySize {
		return "", entry{}, nil, false
	}
	take := func(n int) []byte {
		part := b[:n]
		b = b[n:]
		return part
	}
	length := number(take(lengthSize))
	e.size = number(take(sizeSize))
	e.generation = number(take(generationSize))
	blocks := blocksOf(e.size)
	if !isKeyLength(length) || e.size > api.MaxBytes || len(b) < length+shortSize*blocks {
		return "", entry{}, nil, false
	}
	key = string(take(length))
	for range blocks {
		e.places = append(e.places, number(take(shortSize)))
	}
	return key, e, b, true
}

// parseIndex returns the entries of an index, and whether it is one.
func parseIndex(b []byte) (map[string]entry, bool) {
	entries := map[string]entry{}
	for last := ""; len(b) > 0; {
		key, e, rest, ok := parseEntry(b)
		if !ok || key <= last {
			return nil, false
		}
		entries[key] = e
		last, b = key, rest
	}
	return entries, len(entries) <= api.MaxKeys
}

// rootPage returns the page that makes a state the committed one.
func (x state) rootPage() page {
	size := appendNumber(nil, x.indexSize(), sizeSize)
	return page{label{rootKind, x.generation, rootPlace(x.generation), 0}, x.index[0], size}
}

// rootPlace returns the place of the root of a state, which is not that of the state before it.
func rootPlace(generation int) int {
	return generation % rootBlocks
}

// readState returns the state that a root makes the committed one, and whether it is whole.
func readState(d *Disk, root page) (state, bool) {
	x := state{generation: root.generation}
	size := number(root.data[:sizeSize])
	var b []byte
	next := root.next
	for part := range indexBlocks(size) {
		p, ok := readLabelled(d, label{indexKind, root.generation, next, part})
		if !ok {
			return state{}, false
		}
		b = append(b, p.data...)
		x.index = append(x.index, next)
		next = p.next
	}
	entries, ok := parseIndex(b[:size])
	x.entries = entries
	return x, ok && x.isSound(d.Blocks())
}

// isSound reports whether the values of a state are from no later commit, and all its places are on a disk with so many blocks, each one once.
func (x state) isSound(blocks int) bool {
	for _, e := range x.entries {
		if e.generation > x.generation {
			return false
		}
	}
	seen := map[int]bool{}
	for place := range x.places() {
		if place < rootBlocks || place >= blocks || seen[place] {
			return false
		}
		seen[place] = true
	}
	return true
}
