package schema

import (
	"strings"

	"arrayarchive/api"
)

// maxPath is the length of the longest path.
const maxPath = api.MaxDepth * (1 + api.MaxName)

// ValidName reports whether s is a name.
func ValidName(s string) bool {
	if s == "" || len(s) > api.MaxName || !isLetter(s[0]) {
		return false
	}
	for i := range len(s) {
		if !isLetter(s[i]) && !isDigit(s[i]) && s[i] != '_' {
			return false
		}
	}
	return true
}

func isLetter(b byte) bool {
	return 'a' <= b && b <= 'z'
}

func isDigit(b byte) bool {
	return '0' <= b && b <= '9'
}

// ValidPath reports whether s is a path.
func ValidPath(s string) bool {
	if s == "/" {
		return true
	}
	if s == "" || len(s) > maxPath || s[0] != '/' {
		return false
	}
	names := strings.Split(s[1:], "/")
	if len(names) > api.MaxDepth {
		return false
	}
	for _, name := range names {
		if !ValidName(name) {
			return false
		}
	}
	return true
}

// Parent returns the parent of a path other than `/`, and whether s is one.
func Parent(path string) (string, bool) {
	if path == "/" || !ValidPath(path) {
		return "", false
	}
	at := strings.LastIndexByte(path, '/')
	if at == 0 {
		return "/", true
	}
	return path[:at], true
}

// isWithin reports whether a path is that of a group or of one below it.
func isWithin(path, group string) bool {
	return path == group || isBelow(path, group)
}

// isBelow reports whether a path is that of a group below another one.
func isBelow(path, group string) bool {
	if group == "/" {
		return path != "/"
	}
	return strings.HasPrefix(path, group+"/")
}
