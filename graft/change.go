package graft

// change lays what a step makes of a branch's tree down as the tree at work
// on; where the step is refused, the branch keeps the tree it has.
func (s *Store) change(name string, path string, step func(tree) (tree, Errno)) Errno {
	b := s.find(name)
	if b == nil {
		return ErrBranch
	}
	if !isPath(path) {
		return ErrPath
	}
	t, e := step(b.tree)
	if e != OK {
		return e
	}
	b.tree = t
	return OK
}

// admits answers why a value of the kind k can't stand at the path, whatever
// else the tree has room for.
func (t tree) admits(path string, k kind) Errno {
	if t.otherKind(path, k) {
		return ErrKind
	}
	if t.blocks(path) {
		return ErrBlock
	}
	return OK
}

func (t tree) add(path string, n int) (tree, Errno) {
	if e := t.admits(path, counter); e != OK {
		return nil, e
	}
	count := t.at(path).count
	// The bounds are moved, not the count: the sum of count and n may wrap round.
	if n > maxCount-count || n < -maxCount-count {
		return nil, ErrCount
	}
	if t.full(path) {
		return nil, ErrMany
	}
	return t.with(path, value{kind: counter, count: count + n}), OK
}

func (t tree) note(path string, text string) (tree, Errno) {
	if !isText(text) {
		return nil, ErrText
	}
	if e := t.admits(path, note); e != OK {
		return nil, e
	}
	if t.full(path) {
		return nil, ErrMany
	}
	return t.with(path, value{kind: note, text: text}), OK
}

func (t tree) put(path string, item string) (tree, Errno) {
	if !isItem(item) {
		return nil, ErrText
	}
	if e := t.admits(path, bag); e != OK {
		return nil, e
	}
	v := t.at(path).withItem(item)
	if t.full(path) || len(v.items) > maxItems {
		return nil, ErrMany
	}
	return t.with(path, v), OK
}

func (t tree) take(path string, item string) (tree, Errno) {
	if !isItem(item) {
		return nil, ErrText
	}
	if t.otherKind(path, bag) {
		return nil, ErrKind
	}
	v := t.at(path)
	if !v.hasItem(item) {
		return nil, ErrAbsent
	}
	return t.with(path, v.withoutItem(item)), OK
}

func (t tree) remove(path string) (tree, Errno) {
	if t.at(path).kind == nothing {
		return nil, ErrAbsent
	}
	return t.without(path), OK
}
