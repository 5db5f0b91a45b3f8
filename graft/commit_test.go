package graft

import (
	"fmt"
	"math"
	"testing"
)

func TestCommit(t *testing.T) {
	s := planted(t)
	allowed(t, "Branch", s.Branch("b"))
	allowed(t, "Add", s.Add("a", "n", 1))
	commits(t, s, "a", 1)
	shows(t, s, "a", "n #1\n")
	shows(t, s, "b", "")
	allowed(t, "Note", s.Note("b", "t", "hi"))
	commits(t, s, "b", 2)
	allowed(t, "Put", s.Put("a", "s", "x"))
	commits(t, s, "a", 3)
	hasHistory(t, s, "a", 3, 1)
	hasHistory(t, s, "b", 2)
	hasTree(t, s, 1, "n #1\n")
	hasTree(t, s, 2, "t =hi\n")
	hasTree(t, s, 3, "n #1\ns *x\n")
}

func TestCommitOfNobody(t *testing.T) {
	s := planted(t)
	allowed(t, "Add", s.Add("a", "n", 1))
	for _, name := range append([]string{"b", "aa"}, noNames...) {
		commitsNot(t, s, name, ErrBranch)
	}
	allowed(t, "Drop", s.Drop("a"))
	commitsNot(t, s, "a", ErrBranch)
}

func TestCommitOfTheEmptyTree(t *testing.T) {
	s := planted(t)
	commitsNot(t, s, "a", ErrSame)
	allowed(t, "Add", s.Add("a", "n", 1))
	allowed(t, "Delete", s.Delete("a", "n"))
	commitsNot(t, s, "a", ErrSame)
	allowed(t, "Add", s.Add("a", "n", 1))
	commits(t, s, "a", 1)
	allowed(t, "Delete", s.Delete("a", "n"))
	commits(t, s, "a", 2)
	hasTree(t, s, 2, "")
	hasHistory(t, s, "a", 2, 1)
	commitsNot(t, s, "a", ErrSame)
}

// rooted: a store whose branch a is at its head, with a value of each kind.
func rooted(t *testing.T) *Store {
	t.Helper()
	s := planted(t)
	allowed(t, "Add", s.Add("a", "n", 0))
	allowed(t, "Note", s.Note("a", "t", ""))
	allowed(t, "Put", s.Put("a", "s", "x"))
	allowed(t, "Put", s.Put("a", "s", "y"))
	commits(t, s, "a", 1)
	return s
}

// What was changed and changed back is the head's tree again.
func TestCommitOfTheHeadsTree(t *testing.T) {
	for _, there := range []func(*Store) [2]Errno{
		func(s *Store) [2]Errno { return [2]Errno{s.Add("a", "n", 3), s.Add("a", "n", -3)} },
		func(s *Store) [2]Errno { return [2]Errno{s.Add("a", "n", 0), s.Note("a", "t", "")} },
		func(s *Store) [2]Errno { return [2]Errno{s.Delete("a", "n"), s.Add("a", "n", 0)} },
		func(s *Store) [2]Errno { return [2]Errno{s.Add("a", "m", 1), s.Delete("a", "m")} },
		func(s *Store) [2]Errno { return [2]Errno{s.Note("a", "t", "hi"), s.Note("a", "t", "")} },
		func(s *Store) [2]Errno { return [2]Errno{s.Delete("a", "t"), s.Note("a", "t", "")} },
		func(s *Store) [2]Errno { return [2]Errno{s.Put("a", "s", "a"), s.Take("a", "s", "a")} },
		func(s *Store) [2]Errno { return [2]Errno{s.Take("a", "s", "x"), s.Put("a", "s", "x")} },
		func(s *Store) [2]Errno { return [2]Errno{s.Put("a", "r", "x"), s.Take("a", "r", "x")} },
	} {
		s := rooted(t)
		for _, e := range there(s) {
			allowed(t, "the change", e)
		}
		commitsNot(t, s, "a", ErrSame)
		hasHistory(t, s, "a", 1)
	}
}

func TestCommitOfAnotherTree(t *testing.T) {
	for _, c := range []struct {
		change func(*Store) Errno
		want   string
	}{
		{func(s *Store) Errno { return s.Add("a", "n", 1) }, "n #1\ns *x;y\nt =\n"},
		{func(s *Store) Errno { return s.Add("a", "m", 0) }, "m #0\nn #0\ns *x;y\nt =\n"},
		{func(s *Store) Errno { return s.Note("a", "t", " ") }, "n #0\ns *x;y\nt = \n"},
		{func(s *Store) Errno { return s.Put("a", "s", "z") }, "n #0\ns *x;y;z\nt =\n"},
		{func(s *Store) Errno { return s.Take("a", "s", "y") }, "n #0\ns *x\nt =\n"},
		{func(s *Store) Errno { return s.Delete("a", "t") }, "n #0\ns *x;y\n"},
		// A counter and a note that differ in their kind alone.
		{func(s *Store) Errno { s.Delete("a", "n"); return s.Note("a", "n", "") }, "n =\ns *x;y\nt =\n"},
		{func(s *Store) Errno { s.Delete("a", "t"); return s.Add("a", "t", 0) }, "n #0\ns *x;y\nt #0\n"},
		// As many values, and the same ones, but one under another path.
		{func(s *Store) Errno { s.Delete("a", "n"); return s.Add("a", "o", 0) }, "o #0\ns *x;y\nt =\n"},
		// As many items, but one is another one.
		{func(s *Store) Errno { s.Take("a", "s", "y"); return s.Put("a", "s", "z") }, "n #0\ns *x;z\nt =\n"},
	} {
		s := rooted(t)
		allowed(t, "the change", c.change(s))
		commits(t, s, "a", 2)
		shows(t, s, "a", c.want)
		hasTree(t, s, 2, c.want)
		hasTree(t, s, 1, "n #0\ns *x;y\nt =\n")
		hasHistory(t, s, "a", 2, 1)
	}
}

// Only the head counts: a tree that an earlier commit had, or another branch's
// head has, is committed again.
func TestCommitOfATreeSeenBefore(t *testing.T) {
	s := rooted(t)
	allowed(t, "Fork", s.Fork("b", "a"))
	allowed(t, "Add", s.Add("a", "n", 1))
	commits(t, s, "a", 2)
	allowed(t, "Add", s.Add("b", "n", 1))
	commits(t, s, "b", 3)
	allowed(t, "Add", s.Add("a", "n", -1))
	commits(t, s, "a", 4)
	hasHistory(t, s, "a", 4, 2, 1)
	hasHistory(t, s, "b", 3, 1)
	hasTree(t, s, 4, "n #0\ns *x;y\nt =\n")
}

func TestCommitsAreLimited(t *testing.T) {
	s := planted(t)
	allowed(t, "Branch", s.Branch("b"))
	allowed(t, "Branch", s.Branch("c"))
	for i := range maxCommits {
		branch := []string{"a", "b"}[i%2]
		allowed(t, "Add", s.Add(branch, "n", 1))
		commits(t, s, branch, i+1)
	}
	commitsNot(t, s, "a", ErrSame)
	commitsNot(t, s, "c", ErrSame)
	commitsNot(t, s, "d", ErrBranch)
	for _, branch := range []string{"a", "b", "c"} {
		allowed(t, "Add", s.Add(branch, "n", 1))
		commitsNot(t, s, branch, ErrMany)
	}
	hasNoTree(t, s, 61)
	// The commits of a branch that is no more stay, and count.
	allowed(t, "Drop", s.Drop("b"))
	commitsNot(t, s, "a", ErrMany)
	hasTree(t, s, 60, "n #30\n")
	shows(t, s, "a", "n #31\n")
}

func TestCommitsStay(t *testing.T) {
	s := crowded(t)
	commits(t, s, "a", 1)
	want, _ := s.Show("a")
	allowed(t, "Fork", s.Fork("b", "a"))
	for _, branch := range []string{"a", "b"} {
		allowed(t, "Add", s.Add(branch, "n0", 1))
		allowed(t, "Note", s.Note(branch, "p0", "x"))
		allowed(t, "Put", s.Put(branch, "s0", "a"))
		allowed(t, "Take", s.Take(branch, "s1", "a"))
		allowed(t, "Delete", s.Delete(branch, "q0"))
		allowed(t, "Add", s.Add(branch, "a", 1))
		hasTree(t, s, 1, want)
	}
	commits(t, s, "a", 2)
	commits(t, s, "b", 3)
	allowed(t, "Drop", s.Drop("a"))
	allowed(t, "Drop", s.Drop("b"))
	hasTree(t, s, 1, want)
	hasNoTree(t, s, 4)
}

func TestTreeOfNoCommit(t *testing.T) {
	s := planted(t)
	for n := range 5 {
		for _, absent := range []int{0, -1, n + 1, maxCommits, maxCommits + 1, 255, 256, math.MaxInt, math.MinInt} {
			hasNoTree(t, s, absent)
		}
		allowed(t, "Add", s.Add("a", "n", 1))
		commits(t, s, "a", n+1)
		hasTree(t, s, n+1, fmt.Sprintf("n #%d\n", n+1))
	}
}

func TestStoresCommitApart(t *testing.T) {
	s, other := rooted(t), planted(t)
	hasNoTree(t, other, 1)
	hasHistory(t, other, "a")
	allowed(t, "Add", other.Add("a", "n", 7))
	commits(t, other, "a", 1)
	hasTree(t, s, 1, "n #0\ns *x;y\nt =\n")
	hasTree(t, other, 1, "n #7\n")
}
