package graft

import (
	"fmt"
	"slices"
	"strconv"
	"strings"
	"testing"
)

// state tells all that a store shows: its branches, with the history and the
// tree of each, the trees of all commits, and the pack.
func state(s *Store) string {
	var b strings.Builder
	for _, name := range s.Branches() {
		history, e := s.History(name)
		tree, f := s.Show(name)
		if e != OK || f != OK {
			b.WriteString("!")
		}
		fmt.Fprintf(&b, "%s: %v\n%s", name, history, tree)
	}
	for n := 1; ; n++ {
		tree, e := s.Tree(n)
		if e != OK {
			fmt.Fprintf(&b, "%q\n", s.Pack())
			return b.String()
		}
		fmt.Fprintf(&b, "%d:\n%s", n, tree)
	}
}

// allowed: the call answers OK.
func allowed(t *testing.T, what string, e Errno) {
	t.Helper()
	if e != OK {
		t.Errorf("%s: %d, want OK", what, e)
	}
}

// refused: the call answers this error, and nothing has changed.
func refused(t *testing.T, s *Store, what string, call func() Errno, want Errno) {
	t.Helper()
	before := state(s)
	if e := call(); e != want {
		t.Errorf("%s: %d, want %d", what, e, want)
	}
	if after := state(s); after != before {
		t.Errorf("%s: an error changed the store: %q, then %q", what, before, after)
	}
}

func shows(t *testing.T, s *Store, branch string, want string) {
	t.Helper()
	if got, e := s.Show(branch); got != want || e != OK {
		t.Errorf("Show(%q) = %q, %d, want %q", branch, got, e, want)
	}
}

// commits: Commit answers this number.
func commits(t *testing.T, s *Store, branch string, want int) {
	t.Helper()
	if n, e := s.Commit(branch); n != want || e != OK {
		t.Errorf("Commit(%q) = %d, %d, want %d", branch, n, e, want)
	}
}

// commitsNot: Commit answers 0 and this error, and nothing has changed.
func commitsNot(t *testing.T, s *Store, branch string, want Errno) {
	t.Helper()
	refused(t, s, fmt.Sprintf("Commit(%.20q)", branch), func() Errno {
		n, e := s.Commit(branch)
		if n != 0 {
			t.Errorf("Commit(%.20q) answers %d beside the error %d", branch, n, e)
		}
		return e
	}, want)
}

// joins: Join answers this number.
func joins(t *testing.T, s *Store, into string, from string, want int) {
	t.Helper()
	if n, e := s.Join(into, from); n != want || e != OK {
		t.Errorf("Join(%q, %q) = %d, %d, want %d", into, from, n, e, want)
	}
}

// joinsNot: Join answers 0 and this error, and nothing has changed.
func joinsNot(t *testing.T, s *Store, into string, from string, want Errno) {
	t.Helper()
	refused(t, s, fmt.Sprintf("Join(%.20q, %.20q)", into, from), func() Errno {
		n, e := s.Join(into, from)
		if n != 0 {
			t.Errorf("Join(%.20q, %.20q) answers %d beside the error %d", into, from, n, e)
		}
		return e
	}, want)
}

// hasBase: Base answers this tree, whichever commit is named first.
func hasBase(t *testing.T, s *Store, a int, b int, want string) {
	t.Helper()
	for _, c := range [][2]int{{a, b}, {b, a}} {
		if got, e := s.Base(c[0], c[1]); got != want || e != OK {
			t.Errorf("Base(%d, %d) = %q, %d, want %q", c[0], c[1], got, e, want)
		}
	}
}

// hasNoBase: Base answers nothing and this error, whichever commit is named
// first, and nothing has changed.
func hasNoBase(t *testing.T, s *Store, a int, b int, want Errno) {
	t.Helper()
	for _, c := range [][2]int{{a, b}, {b, a}} {
		refused(t, s, fmt.Sprintf("Base(%d, %d)", c[0], c[1]), func() Errno {
			got, e := s.Base(c[0], c[1])
			if got != "" {
				t.Errorf("Base(%d, %d) answers %q beside the error %d", c[0], c[1], got, e)
			}
			return e
		}, want)
	}
}

func hasHistory(t *testing.T, s *Store, branch string, want ...int) {
	t.Helper()
	if got, e := s.History(branch); !slices.Equal(got, want) || e != OK {
		t.Errorf("History(%q) = %v, %d, want %v", branch, got, e, want)
	}
}

func hasTree(t *testing.T, s *Store, commit int, want string) {
	t.Helper()
	if got, e := s.Tree(commit); got != want || e != OK {
		t.Errorf("Tree(%d) = %q, %d, want %q", commit, got, e, want)
	}
}

func hasNoTree(t *testing.T, s *Store, commit int) {
	t.Helper()
	if got, e := s.Tree(commit); got != "" || e != ErrAbsent {
		t.Errorf("Tree(%d) = %q, %d, want nothing and ErrAbsent", commit, got, e)
	}
}

func hasBranches(t *testing.T, s *Store, want ...string) {
	t.Helper()
	if got := s.Branches(); !slices.Equal(got, want) {
		t.Errorf("Branches() = %q, want %q", got, want)
	}
}

// opened: the store of a pack of these records, all of which are right.
func opened(t *testing.T, records ...string) *Store {
	t.Helper()
	s := Open(strings.Join(records, ""))
	hasPack(t, s, records...)
	return s
}

func hasPack(t *testing.T, s *Store, records ...string) {
	t.Helper()
	if got := s.Pack(); got != strings.Join(records, "") {
		t.Errorf("Pack() = %q, want %q", got, records)
	}
}

// planted: a store with one branch, a.
func planted(t *testing.T) *Store {
	t.Helper()
	s := New()
	allowed(t, "Branch", s.Branch("a"))
	return s
}

// crowded: a store whose branch a has as many values as it may: notes at p0 to
// p9 and q0 to q9, counters at n0 and n1, bags at s0 (of one item) and s1 (full).
func crowded(t *testing.T) *Store {
	t.Helper()
	s := planted(t)
	for _, digit := range strings.Split("0123456789", "") {
		allowed(t, "Note", s.Note("a", "p"+digit, ""))
		allowed(t, "Note", s.Note("a", "q"+digit, ""))
	}
	allowed(t, "Add", s.Add("a", "n0", 0))
	allowed(t, "Add", s.Add("a", "n1", maxCount))
	allowed(t, "Put", s.Put("a", "s0", "x"))
	for _, item := range strings.Split("abcdefgh", "") {
		allowed(t, "Put", s.Put("a", "s1", item))
	}
	return s
}

// lays: makes the tree at work on of a branch this one, by calls alone.
func lays(t *testing.T, s *Store, branch string, tree string) {
	t.Helper()
	old, _ := s.Show(branch)
	for line := range strings.Lines(old) {
		path, _, _ := strings.Cut(line, " ")
		allowed(t, "Delete "+path, s.Delete(branch, path))
	}
	for line := range strings.Lines(tree) {
		path, value, _ := strings.Cut(strings.TrimSuffix(line, "\n"), " ")
		allowed(t, "a value at "+path, sets(s, branch, path, value))
	}
	shows(t, s, branch, tree)
}

// sets lays a written value down at a path that has none.
func sets(s *Store, branch string, path string, value string) Errno {
	switch value[0] {
	case '#':
		n, _ := strconv.Atoi(value[1:])
		return s.Add(branch, path, n)
	case '=':
		return s.Note(branch, path, value[1:])
	}
	for _, item := range strings.Split(value[1:], ";") {
		if e := s.Put(branch, path, item); e != OK {
			return e
		}
	}
	return OK
}

var noNames = []string{
	"", "A", "Z", "a b", " ", "a/b", "/", "a-", "_", "`", "{", ":", "abcdefghi", "123456789", "\x00", "a\n", "\u00e9", "\xff", strings.Repeat("a", 1<<20),
}

var noPaths = []string{
	"", "/", "//", "a/", "/a", "a//b", "a/b/c/d/e", "a/b/c/d/", "A", "a/B", "abcdefghi", "a/abcdefghi", "a b", "a.b", "a\n", "\u00e9", "a/\x00", strings.Repeat("a/", 1<<19) + "a", strings.Repeat("/", 1<<20), strings.Repeat("a", 36),
}

var noTexts = []string{
	";", "a;b", "a;", "\n", "\x00", "\x1f", "\x7f", "\x80", "\xff", "\u00e9", strings.Repeat("x", 21), strings.Repeat("x", 1<<20),
}
