package archive

import (
	"bytes"
	"strconv"
	"strings"

	"arrayarchive/api"
	"arrayarchive/schema"
	"arrayarchive/store"
)

// Keys of a store beside those of chunks.
const (
	schemaKey = "schema"
	stateKey  = "state"
)

// maxNote is the number of bytes of the longest note.
const maxNote = 2000

// noNote stands for an empty note.
const noNote = "-"

// keyPrefix returns that with which the keys of all chunks of a variable begin.
func keyPrefix(id int) string {
	return strconv.Itoa(id) + "/"
}

// chunkKey returns the key of a chunk.
func chunkKey(id int, index []int) string {
	numbers := make([]string, len(index))
	for k, i := range index {
		numbers[k] = strconv.Itoa(i)
	}
	return keyPrefix(id) + strings.Join(numbers, ".")
}

// state returns the value of the key `state`.
func (c content) state() []byte {
	b := strconv.AppendInt(nil, int64(c.given), 10)
	b = append(b, '\n')
	for v := range c.variables() {
		words := []string{v.path, v.Name, strconv.Itoa(v.id), strconv.Itoa(v.count), noteText(v.note)}
		b = append(b, strings.Join(words, " ")...)
		b = append(b, '\n')
	}
	return b
}

// noteText returns a note in hexadecimal digits.
func noteText(note []byte) string {
	const digits = "0123456789abcdef"
	if len(note) == 0 {
		return noNote
	}
	var b []byte
	for _, x := range note {
		b = append(b, digits[x>>4], digits[x&15])
	}
	return string(b)
}

// parseNote returns the note of a text, and no note of any other text.
func parseNote(text string) []byte {
	var note []byte
	for ; len(text) >= 2; text = text[2:] {
		x, err := strconv.ParseUint(text[:2], 16, 8)
		if err != nil {
			return nil
		}
		note = append(note, byte(x))
	}
	return note
}

// parseCount returns the number of a text, and -1 of any other text.
func parseCount(text string) int {
	n, err := strconv.Atoi(text)
	if err != nil {
		return -1
	}
	return n
}

// parseRecord returns the record of a line of a state, and whether it may be one.
func parseRecord(line string) (record, bool) {
	const size = 5
	words := strings.Split(line, " ")
	if len(words) != size {
		return record{}, false
	}
	r := record{parseCount(words[2]), parseCount(words[3]), parseNote(words[4])}
	return r, r.id >= 1 && r.count >= 0 && len(r.note) <= maxNote
}

// parseState gives a content, whose schema is known, what its state says, and reports whether this is a state of it.
func (c *content) parseState(state []byte) bool {
	lines := strings.Split(string(state), "\n")
	c.given = parseCount(lines[0])
	c.records = map[place]record{}
	seen := map[int]bool{}
	next := 1
	for v := range c.variables() {
		if next == len(lines) {
			return false
		}
		r, ok := parseRecord(lines[next])
		if !ok || r.id > c.given || seen[r.id] {
			return false
		}
		c.records[place{v.path, v.Name}] = r
		seen[r.id] = true
		next++
	}
	// A state is read as what it says, any other text as anything: only the former is what this says again.
	return c.given >= 0 && bytes.Equal(c.state(), state)
}

// readContent returns the content that a store has, and whether it has that of an archive.
func readContent(s *store.Store) (content, bool) {
	b, errno := s.Get(schemaKey)
	if errno != api.OK {
		return content{}, false
	}
	state, errno := s.Get(stateKey)
	if errno != api.OK {
		return content{}, false
	}
	var c content
	c.schema, c.format, errno = schema.Decode(b)
	if errno != api.OK || !c.parseState(state) || !c.hasFills() || !c.hasKeys(s) {
		return content{}, false
	}
	return c, true
}

// hasFills reports whether each variable is one that an archive takes.
func (c content) hasFills() bool {
	for v := range c.variables() {
		if checkPipeline(v.Var) != api.OK {
			return false
		}
	}
	return true
}

// hasKeys reports whether all keys of a store, which has those of the schema and the state, are those of a content.
func (c content) hasKeys(s *store.Store) bool {
	keys, errno := s.Keys()
	others := keySet(keys)
	delete(others, schemaKey)
	delete(others, stateKey)
	for v, index := range c.possible() {
		if len(others) == 0 {
			break
		}
		delete(others, chunkKey(v.id, index))
	}
	return errno == api.OK && len(others) == 0
}

// keySet returns the set of keys in a list.
func keySet(keys []string) map[string]bool {
	set := map[string]bool{}
	for _, key := range keys {
		set[key] = true
	}
	return set
}
