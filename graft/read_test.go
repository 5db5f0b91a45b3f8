package graft

import (
	"maps"
	"regexp"
	"slices"
	"strconv"
	"strings"
)

// A line of a tree, by its look alone.
var lineLook = regexp.MustCompile(`^[a-z0-9]{1,8}(/[a-z0-9]{1,8}){0,3} (#(0|-?[1-9][0-9]{0,9})|=[ -:<-~]{0,20}|\*[ -:<-~]{1,20}(;[ -:<-~]{1,20}){0,7})$`)

// read is a second telling of P8: the grove of as many records as are right.
func read(pack string) *grove {
	g := newGrove()
	for g.readOne(pack[len(g.pack):]) {
	}
	return g
}

// readOne: takes the first record, if it is right.
func (g *grove) readOne(pack string) bool {
	if len(pack) < 4 {
		return false
	}
	length := int(pack[1])*256 + int(pack[2])
	if len(pack) < length+4 {
		return false
	}
	body := pack[3 : 3+length]
	if pack[:length+4] != byHand(pack[0], body) {
		return false
	}
	switch pack[0] {
	case 'C':
		return g.readCommit(body)
	case 'B':
		return g.readHead(body)
	case 'D':
		return g.drop(body) == OK
	}
	return false
}

func (g *grove) readCommit(body string) bool {
	if len(g.commits) == 60 || body == "" || body[0] > 2 || len(body) < 1+int(body[0]) {
		return false
	}
	var p planting
	for _, n := range []byte(body[1 : 1+body[0]]) {
		if n < 1 || int(n) > len(g.commits) || slices.Contains(p.parents, int(n)) {
			return false
		}
		p.parents = append(p.parents, int(n))
	}
	p.tree = readModel(body[1+body[0]:])
	if p.tree == nil {
		return false
	}
	g.plant(p)
	return true
}

func (g *grove) readHead(body string) bool {
	if body == "" || int(body[0]) > len(g.commits) || !regexp.MustCompile(`^[a-z0-9]{1,8}$`).MatchString(body[1:]) {
		return false
	}
	if g.trees[body[1:]] == nil && len(g.trees) == 6 {
		return false
	}
	g.move(body[1:], int(body[0]))
	return true
}

// readModel: nil, if that is no tree as it is written.
func readModel(text string) model {
	m := model{}
	if text == "" {
		return m
	}
	if !strings.HasSuffix(text, "\n") {
		return nil
	}
	for _, line := range strings.Split(strings.TrimSuffix(text, "\n"), "\n") {
		if !lineLook.MatchString(line) {
			return nil
		}
		path, value, _ := strings.Cut(line, " ")
		if !standsSo(value) {
			return nil
		}
		m[path] = value
	}
	if len(m) > 24 || m.written() != text || slices.ContainsFunc(slices.Collect(maps.Keys(m)), m.blocked) {
		return nil
	}
	return m
}

// standsSo: a value that looks like one is one, and is written so.
func standsSo(value string) bool {
	switch value[0] {
	case '#':
		n, err := strconv.ParseFloat(value[1:], 64)
		return err == nil && n <= 1e9 && n >= -1e9
	case '*':
		items := strings.Split(value[1:], ";")
		return slices.IsSorted(items) && len(slices.Compact(slices.Clone(items))) == len(items)
	}
	return true
}
