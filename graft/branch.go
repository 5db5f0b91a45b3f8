package graft

import (
	"slices"
	"strings"
)

type branch struct {
	name string
	head int  // a commit's number; 0: none
	tree tree // the one at work on
}

func (s *Store) place(name string) (int, bool) {
	return slices.BinarySearchFunc(s.branches, name, func(b *branch, n string) int {
		return strings.Compare(b.name, n)
	})
}

// find answers the branch with this name; nil, if there is none.
func (s *Store) find(name string) *branch {
	i, there := s.place(name)
	if !there {
		return nil
	}
	return s.branches[i]
}

// grow makes a branch with this head, and at work on the head's tree.
func (s *Store) grow(name string, head int) Errno {
	i, there := s.place(name)
	if there {
		return ErrSame
	}
	if len(s.branches) >= maxBranches {
		return ErrMany
	}
	b := &branch{name: name, head: head, tree: s.treeOf(head)}
	s.branches = slices.Insert(s.branches, i, b)
	return OK
}
