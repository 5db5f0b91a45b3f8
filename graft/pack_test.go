package graft

import (
	"fmt"
	"math"
	"strings"
	"testing"
)

func TestThirdExample(t *testing.T) {
	s := New()
	hasPack(t, s)
	allowed(t, "Branch", s.Branch("a"))
	hasPack(t, s, string([]byte{'B', 0, 2, 0, 'a', 166}))
}

// A record is written of any number of parts: where one ends is not told.
func TestRecord(t *testing.T) {
	for _, parts := range [][]string{
		{}, {""}, {"", ""}, {"a"}, {"\x00", "a"}, {"\x00a"}, {"a", "", "bc", "d"}, {strings.Repeat("\xff", 255)}, {strings.Repeat("\xff", 100), strings.Repeat("\x00", 156)}, {strings.Repeat("x", 4921)},
	} {
		if got, want := record('X', parts...), byHand('X', strings.Join(parts, "")); got != want {
			t.Errorf("the record of %q is %q, want %q", parts, got, want)
		}
	}
}

// Each call writes just these records, behind what was written before.
func TestWhatIsWritten(t *testing.T) {
	s := New()
	var all []string
	writes := func(e Errno, records ...string) {
		t.Helper()
		allowed(t, "the call", e)
		all = append(all, records...)
		hasPack(t, s, all...)
	}
	numbered := func(n int, e Errno) Errno { return e }
	writes(s.Branch("a"), byHand('B', "\x00a"))
	writes(s.Fork("b", "a"), byHand('B', "\x00b"))
	writes(numbered(s.Join("a", "b")))
	writes(s.Add("a", "x/n", -7))
	writes(s.Put("a", "s", "q"))
	writes(s.Put("a", "s", "p"))
	writes(numbered(s.Commit("a")), byHand('C', "\x00s *p;q\nx/n #-7\n"), byHand('B', "\x01a"))
	writes(s.Note("a", "t", "hi"))
	writes(s.Fork("c", "a"), byHand('B', "\x01c"))
	writes(numbered(s.Join("b", "a")), byHand('B', "\x01b"))
	writes(numbered(s.Join("b", "c")))
	writes(s.Take("a", "s", "p"))
	writes(numbered(s.Commit("a")), byHand('C', "\x01\x01s *q\nt =hi\nx/n #-7\n"), byHand('B', "\x02a"))
	writes(s.Delete("b", "s"))
	writes(s.Delete("b", "x/n"))
	writes(numbered(s.Commit("b")), byHand('C', "\x01\x01"), byHand('B', "\x03b"))
	writes(numbered(s.Join("b", "a")), byHand('C', "\x02\x03\x02s *q\nt =hi\n"), byHand('B', "\x04b"))
	writes(numbered(s.Join("b", "a")))
	writes(numbered(s.Join("a", "b")), byHand('B', "\x04a"))
	writes(numbered(s.Join("a", "b")))
	writes(s.Drop("b"), byHand('D', "b"))
	writes(s.Branch("b"), byHand('B', "\x00b"))
	writes(numbered(s.Join("c", "b")))
	writes(s.Drop("c"), byHand('D', "c"))
}

// What is only asked, and what is refused, writes nothing. (That refused calls
// leave the pack as it is, the tests of all of them see by its state.)
func TestWhatIsNotWritten(t *testing.T) {
	s := parted(t, "", "k #1\n", "k =\n")
	before := s.Pack()
	s.Show("a")
	s.History("b")
	s.Tree(1)
	s.Base(4, 6)
	s.Branches()
	s.Pack()
	s.Branch("a")
	s.Branch("A")
	s.Fork("b", "a")
	s.Fork("c", "d")
	s.Drop("c")
	s.Commit("a")
	s.Commit("c")
	s.Join("a", "b")
	s.Join("a", "c")
	s.Add("a", "k", math.MaxInt)
	s.Note("a", "k", "")
	hasPack(t, s, before)
}

// The longest tree: a record's length has a higher byte as well.
func TestPackOfTheLongestTree(t *testing.T) {
	s := planted(t)
	var tree strings.Builder
	for i := range maxLeaves {
		path := fmt.Sprintf("name00%02d/abcdefgh/01234567/ijklmnop", i)
		var items []string
		for j := range maxItems {
			item := fmt.Sprintf("%d%s", j, strings.Repeat("~", maxText-1))
			allowed(t, "Put", s.Put("a", path, item))
			items = append(items, item)
		}
		fmt.Fprintf(&tree, "%s *%s\n", path, strings.Join(items, ";"))
	}
	commits(t, s, "a", 1)
	all := []string{byHand('B', "\x00a"), byHand('C', "\x00"+tree.String()), byHand('B', "\x01a")}
	hasPack(t, s, all...)
	if length := all[1][1:3]; length != "\x13\x39" {
		t.Errorf("the length is %q", length)
	}
	hasTree(t, opened(t, all...), 1, tree.String())
}

// The check goes round at 251: the sums of these records lie around it.
func TestCheckGoesRound(t *testing.T) {
	s := planted(t)
	for head := 1; head <= 6; head++ {
		allowed(t, "Add", s.Add("a", "n", 1))
		commits(t, s, "a", head)
		before := s.Pack()
		allowed(t, "Fork", s.Fork("z9", "a"))
		check := []byte{250, 0, 1, 2, 3, 4}[head-1]
		hasPack(t, s, before, string([]byte{'B', 0, 3, byte(head), 'z', '9', check}))
		allowed(t, "Drop", s.Drop("z9"))
	}
	opened(t, s.Pack())
}

func TestPackOfAllCommits(t *testing.T) {
	s := planted(t)
	all := []string{byHand('B', "\x00a")}
	for n := range maxCommits {
		allowed(t, "Add", s.Add("a", "n", 1))
		commits(t, s, "a", n+1)
		made := planting{tree: model{"n": fmt.Sprintf("#%d", n+1)}}
		if n > 0 {
			made.parents = []int{n}
		}
		all = append(all, made.record(), byHand('B', string(rune(n+1))+"a"))
	}
	hasPack(t, s, all...)
	allowed(t, "Add", s.Add("a", "n", 1))
	commitsNot(t, s, "a", ErrMany)
	hasPack(t, opened(t, all...), all...)
}

// An answer stays as it is, whatever is done later, and stores share none.
func TestPacksAreApart(t *testing.T) {
	s := planted(t)
	before := s.Pack()
	one, other := Open(before), Open(before)
	allowed(t, "Branch", one.Branch("x"))
	allowed(t, "Drop", other.Drop("a"))
	allowed(t, "Branch", s.Branch("b"))
	if before != byHand('B', "\x00a") {
		t.Errorf("a later call changed an answer: %q", before)
	}
	hasPack(t, s, byHand('B', "\x00a"), byHand('B', "\x00b"))
	hasPack(t, one, byHand('B', "\x00a"), byHand('B', "\x00x"))
	hasPack(t, other, byHand('B', "\x00a"), byHand('D', "a"))
	hasBranches(t, s, "a", "b")
	hasBranches(t, one, "a", "x")
	hasBranches(t, other)
}
