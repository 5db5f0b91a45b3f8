// Package graft: trees of values that grow apart, and together again: see DOC.md.
package graft

import "slices"

// Errno is what a call answers: OK or the reason for a refusal.
type Errno int

const (
	OK        Errno = 0
	ErrName   Errno = 1  // no name
	ErrPath   Errno = 2  // no path
	ErrText   Errno = 3  // no text
	ErrMany   Errno = 4  // too many
	ErrBranch Errno = 5  // no such branch
	ErrKind   Errno = 6  // a value of another kind
	ErrBlock  Errno = 7  // a path that leads through a value
	ErrCount  Errno = 8  // a counter beyond its bounds
	ErrSame   Errno = 9  // the same, or not the same
	ErrAbsent Errno = 10 // not there
)

// Store keeps branches and commits, and the pack they are written to.
type Store struct {
	branches []*branch // in the order of their names
	commits  []commit  // the commit with the number n is at n-1
	pack     []byte    // all that was written, one record behind the other
}

// New makes a store (P3).
func New() *Store { return &Store{} }

// Open makes a store of a pack (P8).
func Open(pack string) *Store {
	s := New()
	for {
		first, rest, whole := firstRecord(pack)
		if !whole || !s.replay(first) {
			return s
		}
		pack = rest
	}
}

// Branch makes a branch (P3).
func (s *Store) Branch(name string) Errno {
	if !isName(name) {
		return ErrName
	}
	return s.grow(name, 0)
}

// Fork makes a branch of another one (P3).
func (s *Store) Fork(name string, from string) Errno {
	if !isName(name) {
		return ErrName
	}
	b := s.find(from)
	if b == nil {
		return ErrBranch
	}
	return s.grow(name, b.head)
}

// Drop takes a branch away (P3).
func (s *Store) Drop(name string) Errno {
	i, there := s.place(name)
	if !there {
		return ErrBranch
	}
	s.branches = slices.Delete(s.branches, i, i+1)
	s.write(dropLetter, name)
	return OK
}

// Add adds to a counter (P4).
func (s *Store) Add(branch string, path string, n int) Errno {
	return s.change(branch, path, func(t tree) (tree, Errno) { return t.add(path, n) })
}

// Note lays a note down (P4).
func (s *Store) Note(branch string, path string, text string) Errno {
	return s.change(branch, path, func(t tree) (tree, Errno) { return t.note(path, text) })
}

// Put puts an item into a bag (P4).
func (s *Store) Put(branch string, path string, item string) Errno {
	return s.change(branch, path, func(t tree) (tree, Errno) { return t.put(path, item) })
}

// Take takes an item out of a bag (P4).
func (s *Store) Take(branch string, path string, item string) Errno {
	return s.change(branch, path, func(t tree) (tree, Errno) { return t.take(path, item) })
}

// Delete takes a value away (P4).
func (s *Store) Delete(branch string, path string) Errno {
	return s.change(branch, path, func(t tree) (tree, Errno) { return t.remove(path) })
}

// Commit takes a tree down (P5).
func (s *Store) Commit(branch string) (int, Errno) {
	b := s.find(branch)
	if b == nil {
		return 0, ErrBranch
	}
	if !s.atWork(b) {
		return 0, ErrSame
	}
	return s.advance(b, commit{parents: parentsOf(b.head), tree: b.tree})
}

// Join joins a branch into another one (P6).
func (s *Store) Join(into string, from string) (int, Errno) {
	ours, theirs := s.find(into), s.find(from)
	if ours == nil || theirs == nil {
		return 0, ErrBranch
	}
	if s.atWork(ours) {
		return 0, ErrSame
	}
	if s.holds(ours.head, theirs.head) {
		return ours.head, OK
	}
	if s.holds(theirs.head, ours.head) {
		s.point(into, theirs.head)
		return ours.head, OK
	}
	return s.join(ours, theirs.head)
}

// Show tells the tree at work on (P7).
func (s *Store) Show(branch string) (string, Errno) {
	b := s.find(branch)
	if b == nil {
		return "", ErrBranch
	}
	return b.tree.written(), OK
}

// History tells a head's history (P7).
func (s *Store) History(branch string) ([]int, Errno) {
	b := s.find(branch)
	if b == nil {
		return nil, ErrBranch
	}
	return s.history(b.head), OK
}

// Tree tells a commit's tree (P7).
func (s *Store) Tree(commit int) (string, Errno) {
	if !s.hasCommit(commit) {
		return "", ErrAbsent
	}
	return s.treeOf(commit).written(), OK
}

// Base tells the base of two commits (P7).
func (s *Store) Base(a int, b int) (string, Errno) {
	if !s.hasCommit(a) || !s.hasCommit(b) {
		return "", ErrAbsent
	}
	t, e := s.base(a, b)
	if e != OK {
		return "", e
	}
	return t.written(), OK
}

// Branches tells the branches' names (P3).
func (s *Store) Branches() []string {
	var names []string
	for _, b := range s.branches {
		names = append(names, b.name)
	}
	return names
}

// Pack tells the pack (P8).
func (s *Store) Pack() string { return string(s.pack) }
