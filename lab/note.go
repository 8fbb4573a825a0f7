package lab

import (
	"strconv"
	"strings"

	"arrayarchive/api"
	"arrayarchive/calc"
)

// mark is the byte with which the note of a derived variable begins.
const mark = "\x01"

// noteOf returns the note of a derived variable.
func noteOf(says api.Derived) []byte {
	lines := []string{mark + says.Expr}
	for _, s := range says.Sources {
		lines = append(lines, strings.Join([]string{s.Path, s.Name, strconv.Itoa(s.Version)}, " "))
	}
	return []byte(strings.Join(lines, "\n") + "\n")
}

// parseNote returns what the note of a derived variable says, and whether it is one.
func parseNote(note []byte) (api.Derived, bool) {
	lines := strings.Split(strings.TrimPrefix(string(note), mark), "\n")
	says := api.Derived{Expr: lines[0]}
	names, errno := calc.Names(says.Expr)
	text, _ := calc.Format(says.Expr)
	if errno != api.OK || text != says.Expr || len(lines) < 1+len(names) {
		return api.Derived{}, false
	}
	for i, n := range names {
		version := parseVersion(lines[1+i])
		if version < 0 {
			return api.Derived{}, false
		}
		says.Sources = append(says.Sources, api.Source{Path: n.Path, Name: n.Name, Version: version})
	}
	// The lines were read as those of a note that says this: only this note is what noteOf returns for it.
	if string(noteOf(says)) != string(note) {
		return api.Derived{}, false
	}
	return says, true
}

// parseVersion returns the number at the end of a line, and -1 if there is none.
func parseVersion(line string) int {
	n, err := strconv.Atoi(line[strings.LastIndexByte(line, ' ')+1:])
	if err != nil {
		return -1
	}
	return n
}
