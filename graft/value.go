package graft

import (
	"slices"
	"strconv"
	"strings"
)

// kind tells what a value is; nothing stands for no value at all.
type kind int

const (
	nothing kind = iota
	counter
	note
	bag
)

// value is never changed once it is made, so that trees may share it.
type value struct {
	kind  kind
	count int      // of a counter
	text  string   // of a note
	items []string // of a bag, in order
}

func (v value) written() string {
	switch v.kind {
	case counter:
		return string(counterSign) + strconv.Itoa(v.count)
	case note:
		return string(noteSign) + v.text
	case bag:
		return string(bagSign) + strings.Join(v.items, itemBreak)
	}
	return ""
}

func (v value) same(w value) bool {
	return v.kind == w.kind && v.count == w.count && v.text == w.text && slices.Equal(v.items, w.items)
}

// withItem answers a bag of v's items and this one.
func (v value) withItem(item string) value {
	i, there := slices.BinarySearch(v.items, item)
	if there {
		return v
	}
	return value{kind: bag, items: slices.Insert(slices.Clone(v.items), i, item)}
}

// withoutItem answers what is left of v: nothing, if that is no item.
func (v value) withoutItem(item string) value {
	i, there := slices.BinarySearch(v.items, item)
	if !there {
		return v
	}
	if len(v.items) == 1 {
		return value{}
	}
	return value{kind: bag, items: slices.Delete(slices.Clone(v.items), i, i+1)}
}

func (v value) hasItem(item string) bool {
	_, there := slices.BinarySearch(v.items, item)
	return there
}
