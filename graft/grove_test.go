package graft

import (
	"fmt"
	"maps"
	"math"
	"slices"
	"strconv"
	"strings"
)

// grove is a second telling of P3, P5, P6, P7 and of what is written to the
// pack, on models of trees.
type grove struct {
	trees   map[string]model
	heads   map[string]int
	commits []planting
	pack    string
}

type planting struct {
	parents []int
	tree    model
}

// newGrove: without branches and commits.
func newGrove() *grove {
	return &grove{trees: map[string]model{}, heads: map[string]int{}}
}

// byHand: a record, by the document's words.
func byHand(letter byte, body string) string {
	bytes := []byte{letter, byte(len(body) / 256), byte(len(body) % 256)}
	bytes = append(bytes, body...)
	sum := 1
	for _, c := range bytes {
		sum += int(c)
	}
	return string(append(bytes, byte(sum%251)))
}

func (p planting) record() string {
	body := []byte{byte(len(p.parents))}
	for _, n := range p.parents {
		body = append(body, byte(n))
	}
	return byHand('C', string(body)+p.tree.written())
}

// plant: a commit.
func (g *grove) plant(p planting) int {
	g.commits = append(g.commits, p)
	g.pack += p.record()
	return len(g.commits)
}

func (g *grove) headTree(head int) model {
	if head == 0 {
		return model{}
	}
	return g.commits[head-1].tree
}

func (g *grove) fork(name string, from string) Errno {
	if g.trees[from] == nil {
		return ErrBranch
	}
	return g.sprout(name, g.heads[from])
}

func (g *grove) branch(name string) Errno {
	return g.sprout(name, 0)
}

func (g *grove) sprout(name string, head int) Errno {
	if g.trees[name] != nil {
		return ErrSame
	}
	if len(g.trees) == 6 {
		return ErrMany
	}
	g.move(name, head)
	return OK
}

func (g *grove) move(name string, head int) {
	g.trees[name], g.heads[name] = maps.Clone(g.headTree(head)), head
	g.pack += byHand('B', string([]byte{byte(head)})+name)
}

func (g *grove) drop(name string) Errno {
	if g.trees[name] == nil {
		return ErrBranch
	}
	delete(g.trees, name)
	delete(g.heads, name)
	g.pack += byHand('D', name)
	return OK
}

func (g *grove) commit(name string) (int, Errno) {
	if g.trees[name] == nil {
		return 0, ErrBranch
	}
	head := g.heads[name]
	if maps.Equal(g.trees[name], g.headTree(head)) {
		return 0, ErrSame
	}
	if len(g.commits) == 60 {
		return 0, ErrMany
	}
	made := planting{tree: maps.Clone(g.trees[name])}
	if head > 0 {
		made.parents = []int{head}
	}
	g.move(name, g.plant(made))
	return len(g.commits), OK
}

func (g *grove) join(into string, from string) (int, Errno) {
	if g.trees[into] == nil || g.trees[from] == nil {
		return 0, ErrBranch
	}
	a, b := g.heads[into], g.heads[from]
	if !maps.Equal(g.trees[into], g.headTree(a)) {
		return 0, ErrSame
	}
	if b == 0 || g.reached(a)[b] {
		return a, OK
	}
	if a == 0 || g.reached(b)[a] {
		g.move(into, b)
		return b, OK
	}
	base, e := g.base(a, b)
	if e != OK {
		return 0, e
	}
	made := planting{parents: []int{a, b}}
	if made.tree, e = joinedModels(base, g.headTree(a), g.headTree(b)); e != OK {
		return 0, e
	}
	if len(g.commits) == 60 {
		return 0, ErrMany
	}
	g.move(into, g.plant(made))
	return len(g.commits), OK
}

// reached: a commit, and the histories of its parents.
func (g *grove) reached(head int) map[int]bool {
	all := map[int]bool{}
	if head == 0 {
		return all
	}
	all[head] = true
	for n := head; n > 0; n-- {
		if all[n] {
			for _, p := range g.commits[n-1].parents {
				all[p] = true
			}
		}
	}
	return all
}

func (g *grove) latest(a int, b int) []int {
	ours, theirs := g.reached(a), g.reached(b)
	covered := map[int]bool{}
	for n := range ours {
		if theirs[n] {
			for m := range g.reached(n) {
				covered[m] = covered[m] || m != n
			}
		}
	}
	var latest []int
	for n := range len(g.commits) + 1 {
		if ours[n] && theirs[n] && !covered[n] {
			latest = append(latest, n)
		}
	}
	return latest
}

func (g *grove) base(a int, b int) (model, Errno) {
	latest := g.latest(a, b)
	if len(latest) == 0 {
		return model{}, OK
	}
	tree := g.headTree(latest[0])
	for i := 1; i < len(latest); i++ {
		base, e := g.base(latest[i-1], latest[i])
		if e == OK {
			tree, e = joinedModels(base, tree, g.headTree(latest[i]))
		}
		if e != OK {
			return nil, e
		}
	}
	return tree, OK
}

func joinedModels(base model, ours model, theirs model) (model, Errno) {
	all := maps.Clone(base)
	maps.Copy(all, ours)
	maps.Copy(all, theirs)
	tree := model{}
	for _, path := range slices.SortedFunc(maps.Keys(all), byNames) {
		v, e := joinedWritten(base[path], ours[path], theirs[path])
		if e != OK {
			return nil, e
		}
		if v != "" {
			tree[path] = v
		}
	}
	for path := range tree {
		if tree.blocked(path) {
			return nil, ErrBlock
		}
	}
	if len(tree) > 24 {
		return nil, ErrMany
	}
	return tree, OK
}

// joinedWritten joins written values; nothing is written as nothing.
func joinedWritten(base string, ours string, theirs string) (string, Errno) {
	if ours == base {
		return theirs, OK
	}
	if theirs == base {
		return ours, OK
	}
	if ours == "" || theirs == "" {
		return ours + theirs, OK
	}
	sign := ours[:1]
	if sign != theirs[:1] {
		return "", ErrKind
	}
	if !strings.HasPrefix(base, sign) {
		base = map[string]string{"#": "#0", "=": "=", "*": "*"}[sign]
	}
	switch sign {
	case "#":
		return joinedNumbers(base[1:], ours[1:], theirs[1:])
	case "*":
		return joinedItems(base[1:], ours[1:], theirs[1:])
	}
	if ours < theirs {
		return theirs, OK
	}
	return ours, OK
}

func joinedNumbers(base string, ours string, theirs string) (string, Errno) {
	b, _ := strconv.ParseFloat(base, 64)
	o, _ := strconv.ParseFloat(ours, 64)
	t, _ := strconv.ParseFloat(theirs, 64)
	if math.Abs(o+t-b) > 1e9 {
		return "", ErrCount
	}
	return fmt.Sprintf("#%.0f", o+t-b), OK
}

func joinedItems(base string, ours string, theirs string) (string, Errno) {
	has := map[string]int{}
	for i, items := range []string{base, ours, theirs} {
		for _, item := range strings.Split(items, ";") {
			has[item] |= 1 << i
		}
	}
	var items []string
	for item, where := range has {
		if item != "" && (where&6 == 6 || where&1 == 0) {
			items = append(items, item)
		}
	}
	if len(items) == 0 {
		return "", OK
	}
	if len(items) > 8 {
		return "", ErrMany
	}
	slices.Sort(items)
	return "*" + strings.Join(items, ";"), OK
}

// state: the same as a store's.
func (g *grove) state() string {
	var b strings.Builder
	for _, name := range slices.Sorted(maps.Keys(g.trees)) {
		history := slices.Sorted(maps.Keys(g.reached(g.heads[name])))
		slices.Reverse(history)
		fmt.Fprintf(&b, "%s: %v\n%s", name, history, g.trees[name].written())
	}
	for i, c := range g.commits {
		fmt.Fprintf(&b, "%d:\n%s", i+1, c.tree.written())
	}
	fmt.Fprintf(&b, "%q\n", g.pack)
	return b.String()
}
