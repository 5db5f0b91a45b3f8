package graft

import (
	"math"
	"strings"
	"testing"
)

func TestAdd(t *testing.T) {
	s := planted(t)
	for _, step := range []struct {
		n    int
		want string
	}{
		{5, "n #5\n"},
		{0, "n #5\n"},
		{-7, "n #-2\n"},
		{maxCount + 2, "n #1000000000\n"},
		{-2 * maxCount, "n #-1000000000\n"},
		{maxCount, "n #0\n"},
	} {
		allowed(t, "Add", s.Add("a", "n", step.n))
		shows(t, s, "a", step.want)
	}
	allowed(t, "Add of 0 to nothing", s.Add("a", "m", 0))
	shows(t, s, "a", "m #0\nn #0\n")
}

func TestAddBeyondTheBounds(t *testing.T) {
	for _, c := range []struct {
		start int
		n     int
	}{
		{0, maxCount + 1}, {0, -maxCount - 1},
		{maxCount, 1}, {-maxCount, -1},
		{maxCount, math.MaxInt}, {-maxCount, math.MinInt},
		{maxCount, math.MinInt}, {-maxCount, math.MaxInt},
		{1, maxCount}, {-1, -maxCount},
	} {
		s := planted(t)
		allowed(t, "Add", s.Add("a", "n", c.start))
		refused(t, s, "Add beyond", func() Errno { return s.Add("a", "n", c.n) }, ErrCount)
	}
	s := planted(t)
	refused(t, s, "Add to nothing", func() Errno { return s.Add("a", "n", maxCount+1) }, ErrCount)
	refused(t, s, "Add to nothing", func() Errno { return s.Add("a", "n", math.MinInt) }, ErrCount)
}

func TestNote(t *testing.T) {
	s := planted(t)
	for _, text := range []string{"hi", "", " ", "~", "#1", "*a", "=", ":<", strings.Repeat("x", 20)} {
		allowed(t, "Note", s.Note("a", "n", text))
		shows(t, s, "a", "n ="+text+"\n")
	}
	for _, text := range noTexts {
		refused(t, s, "Note of no text", func() Errno { return s.Note("a", "n", text) }, ErrText)
		refused(t, s, "Note of no text", func() Errno { return s.Note("a", "m", text) }, ErrText)
	}
}

func TestPutAndTake(t *testing.T) {
	s := planted(t)
	for _, item := range []string{"b", "a", "B", "ab", "a", " ", "~", "b"} {
		allowed(t, "Put", s.Put("a", "s", item))
	}
	shows(t, s, "a", "s * ;B;a;ab;b;~\n")
	allowed(t, "Put", s.Put("a", "s", strings.Repeat("y", 20)))
	allowed(t, "Take", s.Take("a", "s", strings.Repeat("y", 20)))
	refused(t, s, "Take of one not there", func() Errno { return s.Take("a", "s", "c") }, ErrAbsent)
	refused(t, s, "Take from nothing", func() Errno { return s.Take("a", "r", "a") }, ErrAbsent)
	for _, item := range []string{"a", " ", "~", "ab", "b"} {
		allowed(t, "Take", s.Take("a", "s", item))
		refused(t, s, "Take again", func() Errno { return s.Take("a", "s", item) }, ErrAbsent)
	}
	shows(t, s, "a", "s *B\n")
	allowed(t, "Take of the last one", s.Take("a", "s", "B"))
	shows(t, s, "a", "")
	refused(t, s, "Delete of a bag no more", func() Errno { return s.Delete("a", "s") }, ErrAbsent)
	allowed(t, "Note where a bag was", s.Note("a", "s", ""))
}

func TestNoItems(t *testing.T) {
	s := planted(t)
	allowed(t, "Put", s.Put("a", "s", "x"))
	for _, item := range append([]string{""}, noTexts...) {
		for _, path := range []string{"s", "r"} {
			refused(t, s, "Put of no item", func() Errno { return s.Put("a", path, item) }, ErrText)
			refused(t, s, "Take of no item", func() Errno { return s.Take("a", path, item) }, ErrText)
		}
	}
}

func TestBagsAreLimited(t *testing.T) {
	s := planted(t)
	for _, item := range strings.Split("hgfedcba", "") {
		allowed(t, "Put", s.Put("a", "s", item))
	}
	refused(t, s, "a ninth item", func() Errno { return s.Put("a", "s", "i") }, ErrMany)
	allowed(t, "Put of one there", s.Put("a", "s", "a"))
	shows(t, s, "a", "s *a;b;c;d;e;f;g;h\n")
	allowed(t, "Take", s.Take("a", "s", "d"))
	allowed(t, "Put", s.Put("a", "s", "i"))
	shows(t, s, "a", "s *a;b;c;e;f;g;h;i\n")
}

func TestDelete(t *testing.T) {
	s := planted(t)
	refused(t, s, "Delete of nothing", func() Errno { return s.Delete("a", "n") }, ErrAbsent)
	allowed(t, "Add", s.Add("a", "x/n", 1))
	allowed(t, "Note", s.Note("a", "x/t", "hi"))
	allowed(t, "Put", s.Put("a", "x/s", "p"))
	refused(t, s, "Delete of a folder", func() Errno { return s.Delete("a", "x") }, ErrAbsent)
	refused(t, s, "Delete behind a value", func() Errno { return s.Delete("a", "x/n/n") }, ErrAbsent)
	allowed(t, "Delete", s.Delete("a", "x/t"))
	shows(t, s, "a", "x/n #1\nx/s *p\n")
	allowed(t, "Delete", s.Delete("a", "x/n"))
	allowed(t, "Delete", s.Delete("a", "x/s"))
	shows(t, s, "a", "")
	allowed(t, "Note where a folder was", s.Note("a", "x", ""))
}

func TestOtherKinds(t *testing.T) {
	s := planted(t)
	allowed(t, "Add", s.Add("a", "n", 1))
	allowed(t, "Note", s.Note("a", "t", "x"))
	allowed(t, "Put", s.Put("a", "s", "x"))
	for _, path := range []string{"t", "s"} {
		refused(t, s, "Add", func() Errno { return s.Add("a", path, 1) }, ErrKind)
		refused(t, s, "Add beyond", func() Errno { return s.Add("a", path, math.MaxInt) }, ErrKind)
	}
	for _, path := range []string{"n", "s"} {
		refused(t, s, "Note", func() Errno { return s.Note("a", path, "x") }, ErrKind)
		refused(t, s, "Note of no text", func() Errno { return s.Note("a", path, ";") }, ErrText)
	}
	for _, path := range []string{"n", "t"} {
		refused(t, s, "Put", func() Errno { return s.Put("a", path, "x") }, ErrKind)
		refused(t, s, "Put of no item", func() Errno { return s.Put("a", path, "") }, ErrText)
		refused(t, s, "Take", func() Errno { return s.Take("a", path, "x") }, ErrKind)
		refused(t, s, "Take of no item", func() Errno { return s.Take("a", path, "") }, ErrText)
	}
}

func TestBlocks(t *testing.T) {
	s := planted(t)
	allowed(t, "Add", s.Add("a", "x/y/z", 1))
	allowed(t, "Note", s.Note("a", "t", ""))
	allowed(t, "Put", s.Put("a", "s/s", "x"))
	for _, path := range []string{"x", "x/y", "x/y/z/0", "t/t", "t/t/t/t", "s", "s/s/s"} {
		refused(t, s, "Add at "+path, func() Errno { return s.Add("a", path, math.MaxInt) }, ErrBlock)
		refused(t, s, "Note at "+path, func() Errno { return s.Note("a", path, "") }, ErrBlock)
		refused(t, s, "Note at "+path, func() Errno { return s.Note("a", path, ";") }, ErrText)
		refused(t, s, "Put at "+path, func() Errno { return s.Put("a", path, "x") }, ErrBlock)
		refused(t, s, "Put at "+path, func() Errno { return s.Put("a", path, "") }, ErrText)
		refused(t, s, "Take at "+path, func() Errno { return s.Take("a", path, "x") }, ErrAbsent)
	}
	for _, path := range []string{"x/y/z0", "x/y0", "x0", "x/z", "t0", "s/s0", "y/z", "z"} {
		allowed(t, "Note at "+path, s.Note("a", path, ""))
	}
}

func TestTreesAreLimited(t *testing.T) {
	s := crowded(t)
	refused(t, s, "Add", func() Errno { return s.Add("a", "z", 1) }, ErrMany)
	refused(t, s, "Note", func() Errno { return s.Note("a", "z", "") }, ErrMany)
	refused(t, s, "Put", func() Errno { return s.Put("a", "z", "x") }, ErrMany)
	refused(t, s, "Add beyond", func() Errno { return s.Add("a", "z", maxCount+1) }, ErrCount)
	refused(t, s, "Note of no text", func() Errno { return s.Note("a", "z", ";") }, ErrText)
	refused(t, s, "Put of no item", func() Errno { return s.Put("a", "z", "") }, ErrText)
	refused(t, s, "Add behind a value", func() Errno { return s.Add("a", "n0/z", 1) }, ErrBlock)
	refused(t, s, "Note behind a value", func() Errno { return s.Note("a", "n0/z", "") }, ErrBlock)
	refused(t, s, "Put behind a value", func() Errno { return s.Put("a", "n0/z", "x") }, ErrBlock)
	refused(t, s, "a ninth item", func() Errno { return s.Put("a", "s1", "i") }, ErrMany)
	allowed(t, "Add to one there", s.Add("a", "n0", 1))
	allowed(t, "Note at one there", s.Note("a", "p0", "x"))
	allowed(t, "Put into one there", s.Put("a", "s0", "y"))
	allowed(t, "Delete", s.Delete("a", "q9"))
	allowed(t, "Put", s.Put("a", "z", "x"))
	refused(t, s, "Add", func() Errno { return s.Add("a", "y", 1) }, ErrMany)
	allowed(t, "Take of the last one", s.Take("a", "z", "x"))
	allowed(t, "Add", s.Add("a", "y", 1))
}

// Neither branch nor path are there, nor is what comes behind them right.
func TestBranchAndPathComeFirst(t *testing.T) {
	s := crowded(t)
	for _, path := range append([]string{"n0", "z"}, noPaths...) {
		for _, branch := range append([]string{"b"}, noNames...) {
			refused(t, s, "Add", func() Errno { return s.Add(branch, path, math.MaxInt) }, ErrBranch)
			refused(t, s, "Note", func() Errno { return s.Note(branch, path, ";") }, ErrBranch)
			refused(t, s, "Put", func() Errno { return s.Put(branch, path, "") }, ErrBranch)
			refused(t, s, "Take", func() Errno { return s.Take(branch, path, "") }, ErrBranch)
			refused(t, s, "Delete", func() Errno { return s.Delete(branch, path) }, ErrBranch)
		}
	}
	for _, path := range noPaths {
		refused(t, s, "Add", func() Errno { return s.Add("a", path, math.MaxInt) }, ErrPath)
		refused(t, s, "Note", func() Errno { return s.Note("a", path, ";") }, ErrPath)
		refused(t, s, "Put", func() Errno { return s.Put("a", path, "") }, ErrPath)
		refused(t, s, "Take", func() Errno { return s.Take("a", path, "") }, ErrPath)
		refused(t, s, "Delete", func() Errno { return s.Delete("a", path) }, ErrPath)
	}
}
