package graft

// commit has a number, by its place in the store.
type commit struct {
	parents []int // the numbers of earlier ones: none, one or two
	tree    tree
}

// treeOf answers a head's tree: the empty one without a head.
func (s *Store) treeOf(head int) tree {
	if head == 0 {
		return nil
	}
	return s.commits[head-1].tree
}

// parentsOf answers what a commit on top of a head has as its parents.
func parentsOf(head int) []int {
	if head == 0 {
		return nil
	}
	return []int{head}
}

func (s *Store) hasCommit(n int) bool {
	return n >= 1 && n <= len(s.commits)
}

// atWork tells whether a branch's tree is another one than its head's.
func (s *Store) atWork(b *branch) bool {
	return !b.tree.same(s.treeOf(b.head))
}

// keep takes a commit down, and writes it: its number.
func (s *Store) keep(c commit) int {
	s.commits = append(s.commits, c)
	s.write(commitLetter, bytesOf(len(c.parents)), bytesOf(c.parents...), c.tree.written())
	return len(s.commits)
}

// advance takes a commit down, if there is room for one, and makes it the
// branch's head.
func (s *Store) advance(b *branch, c commit) (int, Errno) {
	if len(s.commits) >= maxCommits {
		return 0, ErrMany
	}
	s.point(b.name, s.keep(c))
	return b.head, OK
}
