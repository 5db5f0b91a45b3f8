package graft

import "slices"

// join takes down what comes of a branch's head and another commit, where
// neither is in the other one's history.
func (s *Store) join(b *branch, other int) (int, Errno) {
	base, e := s.base(b.head, other)
	if e != OK {
		return 0, e
	}
	t, e := joined(base, s.treeOf(b.head), s.treeOf(other))
	if e != OK {
		return 0, e
	}
	return s.advance(b, commit{parents: []int{b.head, other}, tree: t})
}

// joined answers the join of three trees. Whether its paths can stand together
// is looked at last, when all of the values are known.
func joined(base tree, ours tree, theirs tree) (tree, Errno) {
	var t tree
	for _, path := range paths(base, ours, theirs) {
		v, e := joinedValue(base.at(path), ours.at(path), theirs.at(path))
		if e != OK {
			return nil, e
		}
		if v.kind != nothing {
			t = append(t, leaf{path, v})
		}
	}
	if t.tangled() {
		return nil, ErrBlock
	}
	if len(t) > maxLeaves {
		return nil, ErrMany
	}
	return t, OK
}

// paths answers the paths that some trees have, in order.
func paths(trees ...tree) []string {
	var all []string
	for _, t := range trees {
		for _, l := range t {
			all = append(all, l.path)
		}
	}
	slices.Sort(all)
	return slices.Compact(all)
}

func joinedValue(base value, ours value, theirs value) (value, Errno) {
	switch {
	case ours.same(base):
		return theirs, OK
	case theirs.same(base):
		return ours, OK
	case ours.kind == nothing:
		return theirs, OK
	case theirs.kind == nothing:
		return ours, OK
	case ours.kind != theirs.kind:
		return value{}, ErrKind
	}
	// A base of another kind has the count 0 and no items, as it should.
	switch ours.kind {
	case counter:
		return joinedCounter(base, ours, theirs)
	case bag:
		return joinedBag(base, ours, theirs)
	}
	return value{kind: note, text: max(ours.text, theirs.text)}, OK
}

func joinedCounter(base value, ours value, theirs value) (value, Errno) {
	// Three counts together may be beyond an int of 32 bits.
	count := int64(ours.count) + int64(theirs.count) - int64(base.count)
	if count > maxCount || count < -maxCount {
		return value{}, ErrCount
	}
	return value{kind: counter, count: int(count)}, OK
}

func joinedBag(base value, ours value, theirs value) (value, Errno) {
	var v value
	for _, item := range slices.Concat(ours.items, theirs.items) {
		both := ours.hasItem(item) && theirs.hasItem(item)
		if both || !base.hasItem(item) {
			v = v.withItem(item)
		}
	}
	if len(v.items) > maxItems {
		return value{}, ErrMany
	}
	return v, OK
}
