package graft

import "strings"

// The limits of what a store keeps.
const (
	maxName     = 8
	maxDepth    = 4
	maxText     = 20
	maxLeaves   = 24
	maxItems    = 8
	maxBranches = 6
	maxCommits  = 60
	maxParents  = 2
	maxCount    = 1000000000
)

// What a written value begins with, by its kind, and what stands between the
// items of a bag.
const (
	counterSign = '#'
	noteSign    = '='
	bagSign     = '*'
	itemBreak   = ";"
)

// longestPath bounds a path ahead of its being split, so that a huge
// string costs no memory.
const longestPath = maxDepth*(maxName+1) - 1

func isName(s string) bool {
	if len(s) < 1 || len(s) > maxName {
		return false
	}
	for i := range len(s) {
		if !isNameByte(s[i]) {
			return false
		}
	}
	return true
}

func isNameByte(c byte) bool {
	return c >= 'a' && c <= 'z' || c >= '0' && c <= '9'
}

func isPath(s string) bool {
	if len(s) > longestPath {
		return false
	}
	names := strings.Split(s, "/")
	if len(names) > maxDepth {
		return false
	}
	for _, name := range names {
		if !isName(name) {
			return false
		}
	}
	return true
}

func isText(s string) bool {
	if len(s) > maxText {
		return false
	}
	for i := range len(s) {
		if !isTextByte(s[i]) {
			return false
		}
	}
	return true
}

func isTextByte(c byte) bool {
	return c >= 32 && c <= 126 && c != ';'
}

func isItem(s string) bool {
	return s != "" && isText(s)
}

// leads tells whether the path q has p's names, and more behind them. The '/'
// keeps a name that only begins like another one apart from it.
func leads(p string, q string) bool {
	return strings.HasPrefix(q, p+"/")
}
