package graft

import (
	"fmt"
	"testing"
)

func TestNewIsBare(t *testing.T) {
	s := New()
	hasBranches(t, s)
	hasNoTree(t, s, 1)
	if got, e := s.Show("a"); got != "" || e != ErrBranch {
		t.Errorf("Show of nobody = %q, %d", got, e)
	}
}

func TestBranch(t *testing.T) {
	s := New()
	for _, name := range []string{"z", "a", "0", "9", "az09az09"} {
		allowed(t, "Branch "+name, s.Branch(name))
		shows(t, s, name, "")
	}
	hasBranches(t, s, "0", "9", "a", "az09az09", "z")
	allowed(t, "Add", s.Add("a", "n", 1))
	refused(t, s, "Branch again", func() Errno { return s.Branch("a") }, ErrSame)
}

func TestBranchesAreLimited(t *testing.T) {
	s := New()
	for i := range maxBranches {
		refused(t, s, "Fork from nobody", func() Errno { return s.Fork("y", "x") }, ErrBranch)
		allowed(t, "Branch", s.Branch(fmt.Sprint(i)))
	}
	hasBranches(t, s, "0", "1", "2", "3", "4", "5")
	refused(t, s, "one too many", func() Errno { return s.Branch("6") }, ErrMany)
	refused(t, s, "one too many", func() Errno { return s.Fork("6", "0") }, ErrMany)
	allowed(t, "Drop", s.Drop("3"))
	allowed(t, "Fork", s.Fork("6", "0"))
	hasBranches(t, s, "0", "1", "2", "4", "5", "6")
}

// The first error named is the answer, with a store in which all others apply.
func TestBranchErrorsInOrder(t *testing.T) {
	s := New()
	for i := range maxBranches {
		allowed(t, "Branch", s.Branch(fmt.Sprint(i)))
	}
	for _, name := range noNames {
		refused(t, s, "Branch of no name", func() Errno { return s.Branch(name) }, ErrName)
		refused(t, s, "Fork of no name", func() Errno { return s.Fork(name, "nobody") }, ErrName)
		refused(t, s, "Fork from no name", func() Errno { return s.Fork("0", name) }, ErrBranch)
		refused(t, s, "Drop of no name", func() Errno { return s.Drop(name) }, ErrBranch)
	}
	refused(t, s, "Branch of one there", func() Errno { return s.Branch("0") }, ErrSame)
	refused(t, s, "Fork from nobody", func() Errno { return s.Fork("0", "nobody") }, ErrBranch)
	refused(t, s, "Fork of one there", func() Errno { return s.Fork("0", "1") }, ErrSame)
	refused(t, s, "Fork of itself", func() Errno { return s.Fork("0", "0") }, ErrSame)
}

func TestForkWithoutHead(t *testing.T) {
	s := planted(t)
	allowed(t, "Add", s.Add("a", "n", 1))
	allowed(t, "Fork", s.Fork("b", "a"))
	shows(t, s, "b", "")
	allowed(t, "Note", s.Note("b", "n", "mine"))
	shows(t, s, "a", "n #1\n")
	shows(t, s, "b", "n =mine\n")
}

func TestForkTakesTheHead(t *testing.T) {
	s := planted(t)
	allowed(t, "Put", s.Put("a", "s", "x"))
	commits(t, s, "a", 1)
	allowed(t, "Put", s.Put("a", "s", "y"))
	allowed(t, "Fork", s.Fork("b", "a"))
	hasHistory(t, s, "b", 1)
	commitsNot(t, s, "b", ErrSame)
	shows(t, s, "b", "s *x\n")
	allowed(t, "Put", s.Put("b", "s", "z"))
	allowed(t, "Take", s.Take("b", "s", "x"))
	shows(t, s, "a", "s *x;y\n")
	hasTree(t, s, 1, "s *x\n")
	allowed(t, "Drop", s.Drop("a"))
	allowed(t, "Fork", s.Fork("c", "b"))
	shows(t, s, "c", "s *x\n")
}

// Whatever is done to one who shares a tree, the others keep theirs.
func TestSharedTreesStay(t *testing.T) {
	const shared = "n #1\ns *w;x;y\nt =hi\n"
	for _, change := range []func(*Store) Errno{
		func(s *Store) Errno { return s.Add("b", "n", 1) },
		func(s *Store) Errno { return s.Add("b", "a", 1) },
		func(s *Store) Errno { return s.Note("b", "t", "ho") },
		func(s *Store) Errno { return s.Put("b", "s", "a") },
		func(s *Store) Errno { return s.Put("b", "s", "z") },
		func(s *Store) Errno { return s.Take("b", "s", "x") },
		func(s *Store) Errno { return s.Delete("b", "n") },
	} {
		s := planted(t)
		allowed(t, "Add", s.Add("a", "n", 1))
		allowed(t, "Note", s.Note("a", "t", "hi"))
		// Three, one by one: a list that grew so may have room behind it.
		allowed(t, "Put", s.Put("a", "s", "w"))
		allowed(t, "Put", s.Put("a", "s", "x"))
		allowed(t, "Put", s.Put("a", "s", "y"))
		commits(t, s, "a", 1)
		allowed(t, "Fork", s.Fork("b", "a"))
		allowed(t, "the change", change(s))
		if got, _ := s.Show("b"); got == shared {
			t.Errorf("the change changed nothing")
		}
		shows(t, s, "a", shared)
		hasTree(t, s, 1, shared)
		allowed(t, "Fork", s.Fork("c", "a"))
		shows(t, s, "c", shared)
	}
}

func TestDrop(t *testing.T) {
	s := planted(t)
	allowed(t, "Branch", s.Branch("b"))
	allowed(t, "Add", s.Add("a", "n", 1))
	allowed(t, "Add", s.Add("b", "n", 2))
	refused(t, s, "Drop of nobody", func() Errno { return s.Drop("c") }, ErrBranch)
	allowed(t, "Drop", s.Drop("a"))
	hasBranches(t, s, "b")
	shows(t, s, "b", "n #2\n")
	refused(t, s, "Drop again", func() Errno { return s.Drop("a") }, ErrBranch)
	refused(t, s, "Add to one dropped", func() Errno { return s.Add("a", "n", 1) }, ErrBranch)
	allowed(t, "Branch", s.Branch("a"))
	shows(t, s, "a", "")
}

func TestBranchesAreNewMemory(t *testing.T) {
	s := planted(t)
	allowed(t, "Branch", s.Branch("b"))
	first, second := s.Branches(), s.Branches()
	first[0], first[1] = "x", "y"
	if second[0] != "a" || second[1] != "b" {
		t.Errorf("two answers share memory: %q", second)
	}
	hasBranches(t, s, "a", "b")
	allowed(t, "Drop", s.Drop("a"))
	if second[0] != "a" || second[1] != "b" {
		t.Errorf("a later call changed an answer: %q", second)
	}
}
