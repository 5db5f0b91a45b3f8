package graft

import (
	"strconv"
	"strings"
)

// replay does again what a whole record tells, and writes it so; false, and
// nothing is done, if it is not right. The record is copied, as the store keeps
// what it names, and not the pack that was handed in.
func (s *Store) replay(record string) bool {
	body := strings.Clone(record[bytesAhead : len(record)-1])
	switch record[0] {
	case commitLetter:
		return s.replayCommit(body)
	case headLetter:
		return s.replayHead(body)
	case dropLetter:
		return s.Drop(body) == OK
	}
	return false
}

func (s *Store) replayCommit(body string) bool {
	if len(s.commits) >= maxCommits {
		return false
	}
	parents, text, ok := s.readParents(body)
	if !ok {
		return false
	}
	t, ok := readTree(text)
	if !ok {
		return false
	}
	s.keep(commit{parents: parents, tree: t})
	return true
}

func (s *Store) replayHead(body string) bool {
	if body == "" {
		return false
	}
	head, name := int(body[0]), body[1:]
	if !isName(name) || head != 0 && !s.hasCommit(head) {
		return false
	}
	if s.find(name) == nil {
		return s.grow(name, head) == OK
	}
	s.point(name, head)
	return true
}

// readParents answers the parents that a commit's bytes begin with, and what is
// behind them; false, if these can't be a commit's.
func (s *Store) readParents(body string) ([]int, string, bool) {
	if body == "" {
		return nil, "", false
	}
	count, rest := int(body[0]), body[1:]
	if count > maxParents || count > len(rest) {
		return nil, "", false
	}
	var parents []int
	for i := range count {
		p := int(rest[i])
		if !s.hasCommit(p) || i > 0 && p == parents[0] {
			return nil, "", false
		}
		parents = append(parents, p)
	}
	return parents, rest[count:], true
}

// readTree answers the tree that is written so; false, if there is none. The
// steps of the calls refuse what no tree may have; what they take and a tree
// would write otherwise is told by writing it again.
func readTree(text string) (tree, bool) {
	var t tree
	for line := range strings.Lines(text) {
		path, written, _ := strings.Cut(strings.TrimSuffix(line, "\n"), " ")
		if !isPath(path) || written == "" {
			return nil, false
		}
		var e Errno
		if t, e = t.read(path, written[0], written[1:]); e != OK {
			return nil, false
		}
	}
	return t, t.written() == text
}

// read answers t with a value at the path, by the sign of its kind and what is
// written behind it.
func (t tree) read(path string, sign byte, rest string) (tree, Errno) {
	switch sign {
	case counterSign:
		n, err := strconv.Atoi(rest)
		if err != nil {
			return nil, ErrCount
		}
		return t.add(path, n)
	case noteSign:
		return t.note(path, rest)
	case bagSign:
		return t.readBag(path, rest)
	}
	return nil, ErrKind
}

func (t tree) readBag(path string, items string) (tree, Errno) {
	for item := range strings.SplitSeq(items, itemBreak) {
		var e Errno
		if t, e = t.put(path, item); e != OK {
			return nil, e
		}
	}
	return t, OK
}
