package graft

import "slices"

// holds tells whether a commit is in a head's history; none at all, 0, is in
// every one.
func (s *Store) holds(head int, commit int) bool {
	return commit == 0 || slices.Contains(s.history(head), commit)
}

// common answers the numbers that the histories of all these commits have, the
// greatest first.
func (s *Store) common(commits ...int) []int {
	var shared []int
	for i, n := range commits {
		told := s.history(n)
		if i == 0 {
			shared = told
			continue
		}
		shared = slices.DeleteFunc(shared, func(m int) bool { return !slices.Contains(told, m) })
	}
	return shared
}

// latest answers those of the commits' common ones that are in no other one's
// history, in the order of their numbers. The greatest of those that are left
// is always such a one, as a history has none that is greater than its head.
func (s *Store) latest(commits ...int) []int {
	left := s.common(commits...)
	var found []int
	for len(left) > 0 {
		found = append(found, left[0])
		told := s.history(left[0])
		left = slices.DeleteFunc(left, func(m int) bool { return slices.Contains(told, m) })
	}
	slices.Reverse(found)
	return found
}

// roots works out bases. It keeps those it has found: where branches were
// joined crosswise, again and again, many ways lead to the same two commits.
type roots struct {
	store *Store
	found map[[2]int]tree
}

func (s *Store) base(a int, b int) (tree, Errno) {
	r := roots{store: s, found: map[[2]int]tree{}}
	return r.base(a, b)
}

func (r roots) base(a int, b int) (tree, Errno) {
	if t, there := r.found[[2]int{a, b}]; there {
		return t, OK
	}
	t, e := r.together(r.store.latest(a, b)...)
	if e != OK {
		return nil, e
	}
	r.found[[2]int{a, b}] = t
	return t, OK
}

// together joins commits, one behind the other, each with the base of it and
// the one ahead of it. That ends, as the latest common ones of two commits,
// where they are several, have lower numbers than both.
func (r roots) together(commits ...int) (tree, Errno) {
	if len(commits) == 0 {
		return nil, OK
	}
	t := r.store.treeOf(commits[0])
	for i, n := range commits[1:] {
		base, e := r.base(commits[i], n)
		if e != OK {
			return nil, e
		}
		t, e = joined(base, t, r.store.treeOf(n))
		if e != OK {
			return nil, e
		}
	}
	return t, OK
}
