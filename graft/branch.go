package graft

import (
	"slices"
	"strings"
)

type branch struct {
	name string
	head int  // a commit's number; 0: none
	tree tree // the one at work on
}

func (s *Store) place(name string) (int, bool) {
	return slices.BinarySearchFunc(s.branches, name, func(b *branch, n string) int {
		return strings.Compare(b.name, n)
	})
}

// find answers the branch with this name; nil, if there is none.
func (s *Store) find(name string) *branch {
	i, there := s.place(name)
	if !there {
		return nil
	}
	return s.branches[i]
}

// grow makes a branch with this head, if there is none with this name, and
// room for one.
func (s *Store) grow(name string, head int) Errno {
	if s.find(name) != nil {
		return ErrSame
	}
	if len(s.branches) >= maxBranches {
		return ErrMany
	}
	s.point(name, head)
	return OK
}

// point makes a commit the head of the branch with this name, which is made if
// there is none, and its tree the one at work on; and writes that.
func (s *Store) point(name string, head int) {
	i, there := s.place(name)
	if !there {
		s.branches = slices.Insert(s.branches, i, &branch{name: name})
	}
	b := s.branches[i]
	b.head, b.tree = head, s.treeOf(head)
	s.write(headLetter, bytesOf(head), name)
}
