package graft

import (
	"slices"
	"strings"
	"testing"
)

// state tells all that a store shows: its branches, and the tree of each.
func state(s *Store) string {
	var b strings.Builder
	for _, name := range s.Branches() {
		tree, e := s.Show(name)
		if e != OK {
			b.WriteString("!")
		}
		b.WriteString(name + ":\n" + tree)
	}
	return b.String()
}

// allowed: the call answers OK.
func allowed(t *testing.T, what string, e Errno) {
	t.Helper()
	if e != OK {
		t.Errorf("%s: %d, want OK", what, e)
	}
}

// refused: the call answers this error, and nothing has changed.
func refused(t *testing.T, s *Store, what string, call func() Errno, want Errno) {
	t.Helper()
	before := state(s)
	if e := call(); e != want {
		t.Errorf("%s: %d, want %d", what, e, want)
	}
	if after := state(s); after != before {
		t.Errorf("%s: an error changed the store: %q, then %q", what, before, after)
	}
}

func shows(t *testing.T, s *Store, branch string, want string) {
	t.Helper()
	if got, e := s.Show(branch); got != want || e != OK {
		t.Errorf("Show(%q) = %q, %d, want %q", branch, got, e, want)
	}
}

func hasBranches(t *testing.T, s *Store, want ...string) {
	t.Helper()
	if got := s.Branches(); !slices.Equal(got, want) {
		t.Errorf("Branches() = %q, want %q", got, want)
	}
}

// planted: a store with one branch, a.
func planted(t *testing.T) *Store {
	t.Helper()
	s := New()
	allowed(t, "Branch", s.Branch("a"))
	return s
}

// crowded: a store whose branch a has as many values as it may: notes at p0 to
// p9 and q0 to q9, counters at n0 and n1, bags at s0 (of one item) and s1 (full).
func crowded(t *testing.T) *Store {
	t.Helper()
	s := planted(t)
	for _, digit := range strings.Split("0123456789", "") {
		allowed(t, "Note", s.Note("a", "p"+digit, ""))
		allowed(t, "Note", s.Note("a", "q"+digit, ""))
	}
	allowed(t, "Add", s.Add("a", "n0", 0))
	allowed(t, "Add", s.Add("a", "n1", maxCount))
	allowed(t, "Put", s.Put("a", "s0", "x"))
	for _, item := range strings.Split("abcdefgh", "") {
		allowed(t, "Put", s.Put("a", "s1", item))
	}
	return s
}

var noNames = []string{
	"", "A", "Z", "a b", " ", "a/b", "/", "a-", "_", "`", "{", ":", "abcdefghi", "123456789", "\x00", "a\n", "\u00e9", "\xff", strings.Repeat("a", 1<<20),
}

var noPaths = []string{
	"", "/", "//", "a/", "/a", "a//b", "a/b/c/d/e", "a/b/c/d/", "A", "a/B", "abcdefghi", "a/abcdefghi", "a b", "a.b", "a\n", "\u00e9", "a/\x00", strings.Repeat("a/", 1<<19) + "a", strings.Repeat("/", 1<<20), strings.Repeat("a", 36),
}

var noTexts = []string{
	";", "a;b", "a;", "\n", "\x00", "\x1f", "\x7f", "\x80", "\xff", "\u00e9", strings.Repeat("x", 21), strings.Repeat("x", 1<<20),
}
