// Package path: where a file is. See doc/01-path.md.
package path

import (
	"strings"

	"recto/api"
)

// Check tells what is wrong with p as a file's path, or OK.
func Check(p string) api.Errno {
	if len(p) > api.MaxPath {
		return api.ErrLong
	}
	if p == "" {
		return api.ErrName
	}
	for part := range strings.SplitSeq(p, "/") {
		if !goodPart(part) {
			return api.ErrName
		}
	}
	return api.OK
}

func goodPart(part string) bool {
	switch part {
	case "", ".", "..":
		return false
	}
	for i := range len(part) {
		if !goodByte(part[i]) {
			return false
		}
	}
	return true
}

func goodByte(c byte) bool {
	switch {
	case c >= 'a' && c <= 'z':
		fallthrough
	case c >= '0' && c <= '9':
		fallthrough
	case c == '.', c == '-', c == '_':
		return true
	}
	return false
}

// Parts tells the parts of p; the empty path has none.
func Parts(p string) []string {
	if p == "" {
		return nil
	}
	return strings.Split(p, "/")
}

// Parent tells all of p ahead of its last slash.
func Parent(p string) string {
	return p[:max(strings.LastIndexByte(p, '/'), 0)]
}

// Under tells whether p lies in the folder dir, at whatever depth.
func Under(p, dir string) bool {
	if dir == "" {
		return p != ""
	}
	return len(p) > len(dir)+1 && p[len(dir)] == '/' && p[:len(dir)] == dir
}

// Clash tells whether one of the two would have to be a file and a folder at once.
func Clash(a, b string) bool {
	if a == "" || b == "" {
		return false
	}
	return Under(a, b) || Under(b, a)
}

// Compare orders paths by their bytes.
func Compare(a, b string) int { return strings.Compare(a, b) }
