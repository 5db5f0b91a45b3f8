package graft

import (
	"fmt"
	"slices"
	"strings"
	"testing"
)

func TestSecondExample(t *testing.T) {
	s := planted(t)
	allowed(t, "Add", s.Add("a", "x/n", 5))
	commits(t, s, "a", 1)
	allowed(t, "Fork", s.Fork("b", "a"))
	allowed(t, "Add", s.Add("b", "x/n", 2))
	allowed(t, "Put", s.Put("b", "s", "p"))
	commits(t, s, "b", 2)
	allowed(t, "Add", s.Add("a", "x/n", -1))
	allowed(t, "Put", s.Put("a", "s", "q"))
	commits(t, s, "a", 3)
	joins(t, s, "a", "b", 4)
	shows(t, s, "a", "s *p;q\nx/n #6\n")
	hasTree(t, s, 4, "s *p;q\nx/n #6\n")
	hasHistory(t, s, "a", 4, 3, 2, 1)
	joins(t, s, "b", "a", 4)
	hasBase(t, s, 2, 3, "x/n #5\n")
}

// parted: a store whose branches a and b have these trees at their heads, 4
// and 6, and parted at the commit 2 with the tree base. Ahead of each of these
// commits is one of another tree, so that a side that has the base's tree has
// come away from it as well.
func parted(t *testing.T, base string, ours string, theirs string) *Store {
	t.Helper()
	s := planted(t)
	lays(t, s, "a", "zz =\n")
	commits(t, s, "a", 1)
	lays(t, s, "a", base)
	commits(t, s, "a", 2)
	allowed(t, "Fork", s.Fork("b", "a"))
	for i, branch := range []string{"a", "b"} {
		lays(t, s, branch, "zz =\n")
		commits(t, s, branch, 3+2*i)
		lays(t, s, branch, []string{ours, theirs}[i])
		commits(t, s, branch, 4+2*i)
	}
	return s
}

// comesOut: the join of these three trees is the tree want, whichever side is
// ours, and whichever branch is joined into the other.
func comesOut(t *testing.T, base string, ours string, theirs string, want string) {
	t.Helper()
	for _, side := range [][2]string{{ours, theirs}, {theirs, ours}} {
		for _, way := range [][2]string{{"a", "b"}, {"b", "a"}} {
			s := parted(t, base, side[0], side[1])
			hasBase(t, s, 4, 6, base)
			joins(t, s, way[0], way[1], 7)
			shows(t, s, way[0], want)
			hasTree(t, s, 7, want)
			if t.Failed() {
				t.Fatalf("the join of %q, %q and %q", base, side[0], side[1])
			}
		}
	}
}

// comesToNothing: the join of these three trees is refused in all ways.
func comesToNothing(t *testing.T, base string, ours string, theirs string, want Errno) {
	t.Helper()
	for _, side := range [][2]string{{ours, theirs}, {theirs, ours}} {
		s := parted(t, base, side[0], side[1])
		joinsNot(t, s, "a", "b", want)
		joinsNot(t, s, "b", "a", want)
		if t.Failed() {
			t.Fatalf("the join of %q, %q and %q", base, side[0], side[1])
		}
	}
}

// numbered: this value under n paths, from the one with the number first on.
func numbered(first int, n int, value string) string {
	var b strings.Builder
	for i := range n {
		fmt.Fprintf(&b, "p%02d %s\n", first+i, value)
	}
	return b.String()
}

func TestJoinOfOneSide(t *testing.T) {
	comesOut(t, "", "", "", "")
	for _, v := range []string{"#5", "#0", "=x", "=", "*x", "*x;y"} {
		there := "k " + v + "\n"
		comesOut(t, there, there, there, there)
		comesOut(t, "", there, "", there)
		comesOut(t, there, "", there, "")
		comesOut(t, there, "", "", "")
		for _, w := range []string{"#4", "=a", "*y", "*x;z"} {
			other := "k " + w + "\n"
			comesOut(t, there, other, there, other)
			comesOut(t, there, other, "", other)
		}
	}
}

func TestJoinOfCounters(t *testing.T) {
	comesOut(t, "k #5\n", "k #7\n", "k #4\n", "k #6\n")
	comesOut(t, "k #5\n", "k #7\n", "k #7\n", "k #9\n")
	comesOut(t, "k #-5\n", "k #-7\n", "k #0\n", "k #-2\n")
	comesOut(t, "k #5\n", "k #0\n", "k #0\n", "k #-5\n")
	comesOut(t, "", "k #0\n", "k #0\n", "k #0\n")
	comesOut(t, "", "k #5\n", "k #-7\n", "k #-2\n")
	comesOut(t, "k =5\n", "k #1\n", "k #2\n", "k #3\n")
	comesOut(t, "k *5\n", "k #1\n", "k #1\n", "k #2\n")
}

func TestJoinOfCountersIsLimited(t *testing.T) {
	comesOut(t, "", "k #999999999\n", "k #1\n", "k #1000000000\n")
	comesOut(t, "", "k #-999999999\n", "k #-1\n", "k #-1000000000\n")
	comesToNothing(t, "", "k #1000000000\n", "k #1\n", ErrCount)
	comesToNothing(t, "", "k #-1000000000\n", "k #-1\n", ErrCount)
	comesToNothing(t, "k #-1\n", "k #0\n", "k #1000000000\n", ErrCount)
	comesToNothing(t, "k #1\n", "k #0\n", "k #-1000000000\n", ErrCount)
	comesToNothing(t, "k #-1000000000\n", "k #1000000000\n", "k #1000000000\n", ErrCount)
	comesToNothing(t, "k #1000000000\n", "k #-1000000000\n", "k #-1000000000\n", ErrCount)
	// Ours and theirs together are beyond it, but not less the base's.
	comesOut(t, "k #999999999\n", "k #1000000000\n", "k #999999998\n", "k #999999999\n")
	comesOut(t, "k #500000000\n", "k #1000000000\n", "k #500000000\n", "k #1000000000\n")
	comesOut(t, "k #500000000\n", "k #1000000000\n", "k #499999999\n", "k #999999999\n")
}

func TestJoinOfNotes(t *testing.T) {
	comesOut(t, "k =m\n", "k =a\n", "k =b\n", "k =b\n")
	comesOut(t, "k =m\n", "k =z\n", "k =b\n", "k =z\n")
	comesOut(t, "k =m\n", "k =a\n", "k =a\n", "k =a\n")
	comesOut(t, "k =m\n", "k =\n", "k =a\n", "k =a\n")
	comesOut(t, "k =m\n", "k =ab\n", "k =a\n", "k =ab\n")
	comesOut(t, "", "k =\n", "k =\n", "k =\n")
	comesOut(t, "", "k =9\n", "k =10\n", "k =9\n")
	comesOut(t, "", "k =a\n", "k =Z\n", "k =a\n")
	comesOut(t, "k #5\n", "k = \n", "k =~\n", "k =~\n")
	comesOut(t, "k *x\n", "k =x\n", "k =\n", "k =x\n")
}

func TestJoinOfBags(t *testing.T) {
	comesOut(t, "k *a;b\n", "k *a;b;c\n", "k *a;b;d\n", "k *a;b;c;d\n")
	comesOut(t, "k *a;b\n", "k *b\n", "k *a;b;d\n", "k *b;d\n")
	comesOut(t, "k *a;b;c\n", "k *b;c\n", "k *a;c\n", "k *c\n")
	comesOut(t, "k *a;b\n", "k *b\n", "k *b\n", "k *b\n")
	comesOut(t, "k *a;b\n", "k *a;c\n", "k *a;c\n", "k *a;c\n")
	comesOut(t, "k *a;b\n", "k *z\n", "k *b;y\n", "k *y;z\n")
	comesOut(t, "", "k *b\n", "k *a;b\n", "k *a;b\n")
	comesOut(t, "k #1\n", "k *x\n", "k *y\n", "k *x;y\n")
	comesOut(t, "k =x\n", "k *x\n", "k *x;y\n", "k *x;y\n")
	comesOut(t, "k *b;d\n", "k *a;d\n", "k *b;c\n", "k *a;c\n")
	// Nothing is left.
	comesOut(t, "k *a;b\n", "k *a\n", "k *b\n", "")
	comesOut(t, "j =\nk *a;b\n", "j =\nk *a\n", "j =\nk *b\n", "j =\n")
	// One side took the bag away: the other one's is there, as it is.
	comesOut(t, "k *a;b\n", "", "k *b\n", "k *b\n")
	comesOut(t, "k *a;b\n", "", "k *a;b;c\n", "k *a;b;c\n")
}

func TestJoinOfBagsIsLimited(t *testing.T) {
	comesOut(t, "", "k *a;b;c;d\n", "k *e;f;g;h\n", "k *a;b;c;d;e;f;g;h\n")
	comesOut(t, "k *a;b\n", "k *a;b;c;d;e\n", "k *a;b;f;g;h\n", "k *a;b;c;d;e;f;g;h\n")
	comesOut(t, "k *a;b;c;d;e;f;g;h\n", "k *a;c;d;e;f;g;h;y\n", "k *b;c;d;e;f;g;h;z\n", "k *c;d;e;f;g;h;y;z\n")
	comesToNothing(t, "", "k *a;b;c;d;e\n", "k *f;g;h;i\n", ErrMany)
	comesToNothing(t, "k #1\n", "k *a;b;c;d;e;f;g;h\n", "k *i\n", ErrMany)
	comesToNothing(t, "k *x\n", "k *a;b;c;d;e;f;g;h\n", "k *x;y\n", ErrMany)
	comesToNothing(t, "k *a;b;c;d;e;f;g;h\n", "k *b;c;d;e;f;g;h;y\n", "k *b;c;d;e;f;g;h;z\n", ErrMany)
}

func TestJoinOfTwoKinds(t *testing.T) {
	for _, base := range []string{"", "k #9\n", "k =m\n", "k *m\n"} {
		comesToNothing(t, base, "k #1\n", "k =x\n", ErrKind)
		comesToNothing(t, base, "k #0\n", "k *x\n", ErrKind)
		comesToNothing(t, base, "k =x\n", "k *x\n", ErrKind)
		comesToNothing(t, base, "k #0\n", "k =\n", ErrKind)
	}
}

// Each path is joined by itself.
func TestJoinOfManyPaths(t *testing.T) {
	comesOut(t,
		"a #1\nb/x =m\nb/y *p;q\nc #7\nd =d\n",
		"a #2\nb/x =a\nb/y *q\nc #7\ne/e/e/e #1\n",
		"a #3\nb/x =z\nb/y *p;q;r\nc #8\nd =d\nf =f\n",
		"a #4\nb/x =z\nb/y *q;r\nc #8\ne/e/e/e #1\nf =f\n")
	comesOut(t,
		numbered(0, 24, "#1"),
		numbered(0, 12, "#2")+numbered(12, 12, "#3"),
		numbered(0, 12, "#5")+numbered(12, 12, "#1"),
		numbered(0, 12, "#6")+numbered(12, 12, "#3"))
}

func TestJoinOfPathsInTheWay(t *testing.T) {
	for _, c := range [][2]string{{"k", "k/l"}, {"k", "k/l/m/n"}, {"k/l", "k/l/m"}, {"k/l/m", "k/l/m/n"}} {
		comesToNothing(t, "", c[0]+" #1\n", c[1]+" #1\n", ErrBlock)
		comesToNothing(t, "", "a =\n"+c[0]+" #1\nz =\n", "b =\n"+c[1]+" =x\n", ErrBlock)
	}
	// Other paths stand between the two.
	comesToNothing(t, "", "k =\n", "k/a/a =\nk/a/b =\n", ErrBlock)
	comesToNothing(t, "", "k/z =\n", "k =\n", ErrBlock)
	// Names that only begin alike.
	comesOut(t, "", "k =\n", "k0/l =\n", "k =\nk0/l =\n")
	comesOut(t, "", "k/l =\n", "k0 =\nkl =\n", "k/l =\nk0 =\nkl =\n")
	// What is in the way is gone in what comes out, or is not.
	comesOut(t, "k #1\n", "k/l #1\n", "k #1\n", "k/l #1\n")
	comesToNothing(t, "k #1\n", "k/l #1\n", "k #2\n", ErrBlock)
	comesOut(t, "k/l #1\n", "k =\n", "k/l #1\n", "k =\n")
	comesToNothing(t, "k/l #1\nk/m #1\n", "k =\n", "k/l #1\nk/m #2\n", ErrBlock)
}

func TestJoinOfTreesIsLimited(t *testing.T) {
	comesOut(t, "", numbered(0, 12, "="), numbered(12, 12, "#1"), numbered(0, 12, "=")+numbered(12, 12, "#1"))
	comesToNothing(t, "", numbered(0, 12, "="), numbered(12, 13, "="), ErrMany)
	comesToNothing(t, "", numbered(0, 24, "="), numbered(24, 24, "="), ErrMany)
	comesToNothing(t, "", numbered(0, 24, "#1"), numbered(1, 24, "#1"), ErrMany)
	// More than 24 paths are looked at, but no more than 24 come out.
	comesOut(t, numbered(0, 12, "="), numbered(12, 12, "="), numbered(0, 12, "=")+numbered(24, 12, "*x"), numbered(12, 12, "=")+numbered(24, 12, "*x"))
	comesOut(t, numbered(0, 24, "="), "", numbered(0, 24, "="), "")
	comesToNothing(t, numbered(0, 12, "="), numbered(12, 13, "="), numbered(0, 12, "=")+numbered(25, 12, "*x"), ErrMany)
}

// The errors of values come path by path, ahead of those of all paths: the
// trees have all of the errors behind the one that is named.
func TestJoinErrorsInOrder(t *testing.T) {
	many := numbered(0, 12, "=")
	more := numbered(12, 12, "=")
	block := [2]string{"w =\n", "w/w =\n"}
	items := [2]string{"*a;b;c;d;e\n", "*f;g;h;i\n"}
	comesToNothing(t, "", "b #1\nc #1000000000\nd "+items[0]+many+block[0], "b =\nc #1\nd "+items[1]+more+block[1], ErrKind)
	comesToNothing(t, "", "b #1000000000\nc #1\nd "+items[0]+many+block[0], "b #1\nc =\nd "+items[1]+more+block[1], ErrCount)
	comesToNothing(t, "", "b "+items[0]+"c #1\nd #1000000000\n"+many+block[0], "b "+items[1]+"c =\nd #1\n"+more+block[1], ErrMany)
	comesToNothing(t, "", "a =\n"+many+block[0]+"y #1000000000\nz #1\n", "a/a =\n"+more+block[1]+"y #1\nz =\n", ErrCount)
	comesToNothing(t, "", "a =\n"+many+block[0]+"y #1\nz #1000000000\n", "a/a =\n"+more+block[1]+"y =\nz #1\n", ErrKind)
	comesToNothing(t, "", many+block[0]+"z #1\n", more+block[1]+"z =\n", ErrKind)
	comesToNothing(t, "", many+block[0], more+block[1], ErrBlock)
	comesToNothing(t, "", "a "+items[0]+block[0], "a "+items[1]+block[1], ErrMany)
	// Name by name, a/b is ahead of a0.
	comesToNothing(t, "", "a/b #1\na0 #1000000000\n", "a/b =\na0 #1\n", ErrKind)
	comesToNothing(t, "", "a/b #1000000000\na0 #1\n", "a/b #1\na0 =\n", ErrCount)
}

func TestJoinOfNobodys(t *testing.T) {
	s := planted(t)
	allowed(t, "Add", s.Add("a", "n", 1))
	for _, name := range append([]string{"b", "aa"}, noNames...) {
		joinsNot(t, s, name, "a", ErrBranch)
		joinsNot(t, s, "a", name, ErrBranch) // though a is at work as well
		joinsNot(t, s, name, name, ErrBranch)
	}
	allowed(t, "Branch", s.Branch("b"))
	allowed(t, "Drop", s.Drop("b"))
	joinsNot(t, s, "a", "b", ErrBranch)
	joinsNot(t, s, "b", "a", ErrBranch)
}

func TestJoinAtWork(t *testing.T) {
	s := planted(t)
	allowed(t, "Branch", s.Branch("b"))
	allowed(t, "Branch", s.Branch("c"))
	allowed(t, "Add", s.Add("a", "n", 1))
	for _, from := range []string{"a", "b"} {
		joinsNot(t, s, "a", from, ErrSame)
	}
	joins(t, s, "b", "a", 0)
	shows(t, s, "b", "")
	commits(t, s, "a", 1)
	joins(t, s, "b", "a", 1)
	allowed(t, "Add", s.Add("b", "n", 1))
	for _, from := range []string{"a", "b", "c"} {
		joinsNot(t, s, "b", from, ErrSame)
	}
	commits(t, s, "b", 2)
	allowed(t, "Note", s.Note("a", "t", "x"))
	joinsNot(t, s, "a", "b", ErrSame)
	commits(t, s, "a", 3)
	// Of the work on b nothing is asked, and nothing is taken over.
	allowed(t, "Add", s.Add("b", "n", 10))
	joinsNot(t, s, "b", "a", ErrSame)
	joins(t, s, "a", "b", 4)
	shows(t, s, "a", "n #2\nt =x\n")
	shows(t, s, "b", "n #12\n")
	hasHistory(t, s, "b", 2, 1)
	// Work that led back to the head's tree is none.
	allowed(t, "Add", s.Add("b", "n", -10))
	joins(t, s, "b", "a", 4)
	allowed(t, "Add", s.Add("c", "n", 0))
	joinsNot(t, s, "c", "a", ErrSame)
	allowed(t, "Delete", s.Delete("c", "n"))
	joins(t, s, "c", "a", 4)
}

// ErrSame comes ahead of the errors of joining.
func TestJoinAtWorkOfTwoKinds(t *testing.T) {
	s := parted(t, "", "k #1\n", "k =\n")
	allowed(t, "Add", s.Add("a", "k", 1))
	joinsNot(t, s, "a", "b", ErrSame)
	joinsNot(t, s, "b", "a", ErrKind)
	allowed(t, "Add", s.Add("a", "k", -1))
	joinsNot(t, s, "a", "b", ErrKind)
}

func TestJoinWithoutHeads(t *testing.T) {
	s := planted(t)
	allowed(t, "Branch", s.Branch("b"))
	joins(t, s, "a", "b", 0)
	joins(t, s, "a", "a", 0)
	allowed(t, "Add", s.Add("a", "n", 1))
	commits(t, s, "a", 1)
	joins(t, s, "a", "b", 1)
	joins(t, s, "a", "a", 1)
	hasHistory(t, s, "b")
	shows(t, s, "b", "")
	hasHistory(t, s, "a", 1)
	joins(t, s, "b", "a", 1)
	hasHistory(t, s, "b", 1)
	shows(t, s, "b", "n #1\n")
	hasNoTree(t, s, 2)
}

// A join where one head is in the other one's history makes no commit (P9).
func TestJoinForward(t *testing.T) {
	s := planted(t)
	lays(t, s, "a", "k =1\n")
	commits(t, s, "a", 1)
	allowed(t, "Fork", s.Fork("b", "a"))
	allowed(t, "Fork", s.Fork("c", "a"))
	for n := 2; n <= 4; n++ {
		lays(t, s, "b", fmt.Sprintf("k =%d\nl #%d\n", n, n))
		commits(t, s, "b", n)
	}
	joins(t, s, "b", "a", 4)
	hasHistory(t, s, "b", 4, 3, 2, 1)
	shows(t, s, "b", "k =4\nl #4\n")
	joins(t, s, "a", "b", 4)
	hasHistory(t, s, "a", 4, 3, 2, 1)
	shows(t, s, "a", "k =4\nl #4\n")
	hasHistory(t, s, "c", 1)
	shows(t, s, "c", "k =1\n")
	hasNoTree(t, s, 5)
	// The head is the new one: the next commit stands on it.
	allowed(t, "Add", s.Add("a", "l", 1))
	commits(t, s, "a", 5)
	hasHistory(t, s, "a", 5, 4, 3, 2, 1)
	hasTree(t, s, 4, "k =4\nl #4\n")
}

func TestJoinAgain(t *testing.T) {
	s := parted(t, "k #1\n", "k #2\n", "k #5\n")
	joins(t, s, "a", "b", 7)
	after := state(s)
	for range 3 {
		joins(t, s, "a", "b", 7)
		joins(t, s, "a", "a", 7)
	}
	if state(s) != after {
		t.Errorf("a join again changed the store: %q, then %q", after, state(s))
	}
	hasHistory(t, s, "b", 6, 5, 2, 1)
	joins(t, s, "b", "a", 7)
	hasHistory(t, s, "b", 7, 6, 5, 4, 3, 2, 1)
	joins(t, s, "b", "a", 7)
	hasNoTree(t, s, 8)
}

// A commit of a join has both heads as its parents, ours first, though it has
// the tree of one of them.
func TestJoinHasTwoParents(t *testing.T) {
	for _, theirs := range []string{"k #1\n", "k #2\n", ""} {
		s := parted(t, "k #1\n", "k #1\n", theirs)
		joins(t, s, "b", "a", 7)
		if got := s.commits[6].parents; !slices.Equal(got, []int{6, 4}) {
			t.Errorf("the parents are %v, want 6 and 4", got)
		}
		hasHistory(t, s, "b", 7, 6, 5, 4, 3, 2, 1)
		hasHistory(t, s, "a", 4, 3, 2, 1)
		shows(t, s, "b", theirs)
		commitsNot(t, s, "b", ErrSame)
		allowed(t, "Note", s.Note("b", "z", ""))
		commits(t, s, "b", 8)
		hasHistory(t, s, "b", 8, 7, 6, 5, 4, 3, 2, 1)
	}
}

// Branches without a common commit are joined with the empty tree.
func TestJoinOfStrangers(t *testing.T) {
	s := planted(t)
	allowed(t, "Branch", s.Branch("b"))
	lays(t, s, "a", "k #2\nl =x\nm *p\n")
	commits(t, s, "a", 1)
	lays(t, s, "b", "k #3\nl =a\nm *p;q\nn #1\n")
	commits(t, s, "b", 2)
	hasBase(t, s, 1, 2, "")
	joins(t, s, "a", "b", 3)
	shows(t, s, "a", "k #5\nl =x\nm *p;q\nn #1\n")
	hasHistory(t, s, "a", 3, 2, 1)
}

// Whatever is done later, the commits' trees stay (P9).
func TestCommitsStayBehindJoins(t *testing.T) {
	s := parted(t, "k *a;b\nn #1\n", "k *a;b;c\nn #2\n", "k *a\nn #3\n")
	joins(t, s, "a", "b", 7)
	joins(t, s, "b", "a", 7)
	want := []string{"zz =\n", "k *a;b\nn #1\n", "zz =\n", "k *a;b;c\nn #2\n", "zz =\n", "k *a\nn #3\n", "k *a;c\nn #4\n"}
	for _, branch := range []string{"a", "b"} {
		allowed(t, "Put", s.Put(branch, "k", "b"))
		allowed(t, "Take", s.Take(branch, "k", "c"))
		allowed(t, "Add", s.Add(branch, "n", 1))
		allowed(t, "Note", s.Note(branch, "a", ""))
		for i, tree := range want {
			hasTree(t, s, i+1, tree)
		}
	}
	commits(t, s, "a", 8)
	commits(t, s, "b", 9)
	joins(t, s, "a", "b", 10)
	shows(t, s, "a", "a =\nk *a;b\nn #6\n")
	for i, tree := range want {
		hasTree(t, s, i+1, tree)
	}
}

func TestJoinsAreLimited(t *testing.T) {
	s := parted(t, "", "k #1\nl #1\n", "k =\n")
	allowed(t, "Fork", s.Fork("c", "a"))
	allowed(t, "Branch", s.Branch("d"))
	lays(t, s, "c", "l #0\n")
	commits(t, s, "c", 7)
	for n := 8; n < maxCommits; n++ {
		allowed(t, "Add", s.Add("c", "l", 1))
		commits(t, s, "c", n)
	}
	allowed(t, "Fork", s.Fork("e", "c"))
	joins(t, s, "e", "b", maxCommits) // the last one there is room for
	shows(t, s, "e", "k =\nl #52\n")
	// The errors of joining come first; no commit, and there is room for it.
	joinsNot(t, s, "a", "b", ErrKind)
	joinsNot(t, s, "b", "c", ErrMany)
	joinsNot(t, s, "c", "b", ErrMany)
	joins(t, s, "c", "a", 59)
	joins(t, s, "c", "e", maxCommits)
	joins(t, s, "d", "c", maxCommits)
	joins(t, s, "d", "d", maxCommits)
	hasNoTree(t, s, maxCommits+1)
}

func TestStoresJoinApart(t *testing.T) {
	s, other := parted(t, "", "k #1\n", "k #2\n"), parted(t, "", "k #10\n", "k #20\n")
	before := state(other)
	joins(t, s, "a", "b", 7)
	if state(other) != before {
		t.Errorf("a join in one store changed another one")
	}
	joins(t, other, "b", "a", 7)
	hasTree(t, s, 7, "k #3\n")
	hasTree(t, other, 7, "k #30\n")
}
