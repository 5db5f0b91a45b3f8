package graft

import (
	"slices"
	"strings"
)

// leaf is a value under its path.
type leaf struct {
	path  string
	value value
}

// tree has its leaves in the order of their paths. As '/' is below every byte
// of a name, the order of the paths' bytes is that of their names. A tree is
// never changed once it is made, so that commits and branches may share it.
type tree []leaf

func (t tree) place(path string) (int, bool) {
	return slices.BinarySearchFunc(t, path, func(l leaf, p string) int {
		return strings.Compare(l.path, p)
	})
}

func (t tree) at(path string) value {
	i, there := t.place(path)
	if !there {
		return value{}
	}
	return t[i].value
}

// with answers a tree that has v at the path, and else what t has.
func (t tree) with(path string, v value) tree {
	if v.kind == nothing {
		return t.without(path)
	}
	i, there := t.place(path)
	u := slices.Clone(t)
	if there {
		u[i].value = v
		return u
	}
	return slices.Insert(u, i, leaf{path, v})
}

// without answers a tree that has nothing at the path, and else what t has.
func (t tree) without(path string) tree {
	i, there := t.place(path)
	if !there {
		return t
	}
	return slices.Delete(slices.Clone(t), i, i+1)
}

func (t tree) same(u tree) bool {
	return slices.EqualFunc(t, u, func(l leaf, m leaf) bool {
		return l.path == m.path && l.value.same(m.value)
	})
}

func (t tree) written() string {
	var b strings.Builder
	for _, l := range t {
		b.WriteString(l.path + " " + l.value.written() + "\n")
	}
	return b.String()
}

// blocks tells whether a value of t and one at the path can't stand together.
func (t tree) blocks(path string) bool {
	for _, l := range t {
		if leads(l.path, path) || leads(path, l.path) {
			return true
		}
	}
	return false
}

// tangled tells whether a path of t leads to another one.
func (t tree) tangled() bool {
	return slices.ContainsFunc(t, func(l leaf) bool { return t.blocks(l.path) })
}

// otherKind tells whether a value is at the path that is not of the kind k.
func (t tree) otherKind(path string, k kind) bool {
	v := t.at(path)
	return v.kind != nothing && v.kind != k
}

// full tells whether a value at the path would be one too many.
func (t tree) full(path string) bool {
	return t.at(path).kind == nothing && len(t) >= maxLeaves
}
