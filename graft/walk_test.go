package graft

import (
	"fmt"
	"maps"
	"math"
	"math/rand"
	"slices"
	"strings"
	"testing"
)

// model is a second telling of P4 and of how a tree is written, kept as plain
// as can be: a tree is a map from paths to written values.
type model map[string]string

func (m model) blocked(path string) bool {
	names := strings.Split(path, "/")
	for other := range m {
		others := strings.Split(other, "/")
		short := min(len(names), len(others))
		if len(names) != len(others) && slices.Equal(names[:short], others[:short]) {
			return true
		}
	}
	return false
}

// admits: the errors that Add, Note and Put have in common, but ErrMany.
func (m model) admits(path string, sign string) Errno {
	if old, there := m[path]; there && old[:1] != sign {
		return ErrKind
	}
	if m.blocked(path) {
		return ErrBlock
	}
	return OK
}

func (m model) full(path string) bool {
	_, there := m[path]
	return !there && len(m) == 24
}

func (m model) items(path string) []string {
	if m[path] == "" {
		return nil
	}
	return strings.Split(m[path][1:], ";")
}

func (m model) add(path string, n int) Errno {
	if e := m.admits(path, "#"); e != OK {
		return e
	}
	count := 0
	if old, there := m[path]; there {
		fmt.Sscanf(old, "#%d", &count)
	}
	if sum := float64(count) + float64(n); sum > 1e9 || sum < -1e9 {
		return ErrCount
	}
	if m.full(path) {
		return ErrMany
	}
	m[path] = fmt.Sprintf("#%d", count+n)
	return OK
}

func (m model) note(path string, text string) Errno {
	if e := m.admits(path, "="); e != OK {
		return e
	}
	if m.full(path) {
		return ErrMany
	}
	m[path] = "=" + text
	return OK
}

func (m model) put(path string, item string) Errno {
	if e := m.admits(path, "*"); e != OK {
		return e
	}
	items := m.items(path)
	if slices.Contains(items, item) {
		return OK
	}
	if m.full(path) || len(items) == 8 {
		return ErrMany
	}
	items = append(items, item)
	slices.Sort(items)
	m[path] = "*" + strings.Join(items, ";")
	return OK
}

func (m model) take(path string, item string) Errno {
	if old, there := m[path]; there && old[:1] != "*" {
		return ErrKind
	}
	items := m.items(path)
	i := slices.Index(items, item)
	if i < 0 {
		return ErrAbsent
	}
	items = slices.Delete(items, i, i+1)
	m[path] = "*" + strings.Join(items, ";")
	if len(items) == 0 {
		delete(m, path)
	}
	return OK
}

func (m model) remove(path string) Errno {
	if _, there := m[path]; !there {
		return ErrAbsent
	}
	delete(m, path)
	return OK
}

func byNames(p string, q string) int {
	return slices.Compare(strings.Split(p, "/"), strings.Split(q, "/"))
}

func (m model) written() string {
	var b strings.Builder
	for _, path := range slices.SortedFunc(maps.Keys(m), byNames) {
		b.WriteString(path + " " + m[path] + "\n")
	}
	return b.String()
}

func randomPath(r *rand.Rand) string {
	names := make([]string, 1+r.Intn(4))
	for i := range names {
		names[i] = []string{"a", "b", "a0", "0", "zz"}[r.Intn(5)]
	}
	return strings.Join(names, "/")
}

// step does the same to a branch and to its model, and answers both errors.
func step(r *rand.Rand, s *Store, branch string, m model) (Errno, Errno) {
	path, item := randomPath(r), string(rune('a'+r.Intn(10)))
	n := []int{1, -1, 7, 600000000, -600000000, math.MaxInt, math.MinInt}[r.Intn(7)]
	switch r.Intn(7) {
	case 0:
		return s.Add(branch, path, n), m.add(path, n)
	case 1:
		return s.Note(branch, path, item), m.note(path, item)
	case 2, 3, 4:
		return s.Put(branch, path, item), m.put(path, item)
	case 5:
		return s.Take(branch, path, item), m.take(path, item)
	}
	if r.Intn(4) > 0 {
		return OK, OK
	}
	return s.Delete(branch, path), m.remove(path)
}

// Two stores of two branches go their own ways, each as its model does.
func TestWalk(t *testing.T) {
	r := rand.New(rand.NewSource(1))
	seen := map[Errno]int{}
	for range 30 {
		stores := []*Store{New(), New()}
		models := map[string]model{}
		for range 1500 {
			k, branch := r.Intn(2), []string{"a", "b"}[r.Intn(2)]
			key := fmt.Sprint(k, branch)
			if models[key] == nil {
				allowed(t, "Branch", stores[k].Branch(branch))
				models[key] = model{}
			}
			got, want := step(r, stores[k], branch, models[key])
			if seen[got]++; got != want {
				t.Fatalf("a step answered %d, want %d, at\n%s", got, want, models[key].written())
			}
			if tree, _ := stores[k].Show(branch); tree != models[key].written() {
				t.Fatalf("Show = %q, want %q", tree, models[key].written())
			}
		}
	}
	for _, e := range []Errno{OK, ErrMany, ErrKind, ErrBlock, ErrCount, ErrAbsent} {
		if seen[e] == 0 {
			t.Errorf("the walk never met the error %d", e)
		}
	}
}

// growStep does the same to a store and to its model, and answers both errors.
func growStep(t *testing.T, r *rand.Rand, s *Store, g *grove) (Errno, Errno) {
	names := []string{"a", "b", "c", "d", "e", "f", "g", "h"}
	name, from := names[r.Intn(8)], names[r.Intn(8)]
	switch r.Intn(16) {
	case 0:
		if r.Intn(4) == 0 || len(g.trees) == 0 {
			return s.Branch(name), g.branch(name)
		}
		return s.Fork(name, from), g.fork(name, from)
	case 1:
		return s.Fork(name, from), g.fork(name, from)
	case 2:
		if r.Intn(6) > 0 {
			return OK, OK
		}
		return s.Drop(name), g.drop(name)
	case 3, 4, 5, 6:
		n, e := s.Join(name, from)
		m, f := g.join(name, from)
		if n != m {
			t.Fatalf("Join(%s, %s) = %d, want %d", name, from, n, m)
		}
		return e, f
	case 7, 8, 9, 10:
		n, e := s.Commit(name)
		m, f := g.commit(name)
		if n != m {
			t.Fatalf("Commit(%s) = %d, want %d", name, n, m)
		}
		return e, f
	}
	if g.trees[name] == nil {
		return s.Add(name, "a", 1), ErrBranch
	}
	return step(r, s, name, g.trees[name])
}

// Branches grow apart, with commits, as their model does.
func TestCommitWalk(t *testing.T) {
	r := rand.New(rand.NewSource(2))
	seen := map[Errno]int{}
	for range 15 {
		s, g := planted(t), newGrove()
		g.move("a", 0)
		for range 500 {
			got, want := growStep(t, r, s, g)
			if seen[got]++; got != want {
				t.Fatalf("a step answered %d, want %d, at\n%s", got, want, g.state())
			}
			if state(s) != g.state() {
				t.Fatalf("the store is\n%s\nwant\n%s", state(s), g.state())
			}
		}
	}
	for _, e := range []Errno{OK, ErrMany, ErrBranch, ErrSame} {
		if seen[e] == 0 {
			t.Errorf("the walk never met the error %d", e)
		}
	}
}

// mildStep is a step that leaves trees which can mostly be joined: each of a
// few paths has a kind of its own, and seldom another one.
func mildStep(r *rand.Rand, s *Store, branch string, m model) (Errno, Errno) {
	k := r.Intn(8)
	path, item := []string{"k", "l", "m", "n", "o/a", "o/b", "p/q/r", "p/q/s"}[k], string(rune('a'+r.Intn(12)))
	if r.Intn(8) == 0 {
		return s.Delete(branch, path), m.remove(path)
	}
	if r.Intn(60) == 0 {
		k++
	}
	if r.Intn(60) == 0 {
		path += "/x"
	}
	n := []int{1, -1, 10, 400000000, -400000000}[r.Intn(5)]
	switch k % 4 {
	case 0:
		return s.Add(branch, path, n), m.add(path, n)
	case 1:
		return s.Note(branch, path, item), m.note(path, item)
	case 2:
		return s.Take(branch, path, item), m.take(path, item)
	}
	return s.Put(branch, path, item), m.put(path, item)
}

// weave does some steps on a branch and commits it, or joins two branches, the
// same in a store and in its model.
func weave(t *testing.T, r *rand.Rand, s *Store, g *grove, joined map[Errno]int) {
	names := []string{"a", "b", "c", "d", "e", "f"}
	name, from := names[r.Intn(6)], names[r.Intn(6)]
	if r.Intn(2) > 0 {
		n, e := s.Join(name, from)
		m, f := g.join(name, from)
		if joined[e]++; n != m || e != f {
			t.Fatalf("Join(%s, %s) = %d, %d, want %d, %d, at\n%s", name, from, n, e, m, f, g.state())
		}
		return
	}
	for range 1 + r.Intn(3) {
		if e, f := mildStep(r, s, name, g.trees[name]); e != f {
			t.Fatalf("a step answered %d, want %d", e, f)
		}
	}
	n, e := s.Commit(name)
	if m, f := g.commit(name); n != m || e != f {
		t.Fatalf("Commit(%s) = %d, %d, want %d, %d", name, n, e, m, f)
	}
}

// sameBases: the store answers the model's bases, of all commits.
func sameBases(t *testing.T, s *Store, g *grove, seen map[Errno]int, latest map[int]int) {
	t.Helper()
	for a := 1; a <= len(g.commits); a++ {
		for b := 1; b <= a; b++ {
			base, e := g.base(a, b)
			latest[len(g.latest(a, b))]++
			if seen[e]++; e == OK {
				hasBase(t, s, a, b, base.written())
			} else {
				hasNoBase(t, s, a, b, e)
			}
		}
	}
}

// Branches grow apart and together, as their model does.
func TestJoinWalk(t *testing.T) {
	r := rand.New(rand.NewSource(3))
	joined, based, latest := map[Errno]int{}, map[Errno]int{}, map[int]int{}
	for range 8 {
		s, g := planted(t), newGrove()
		g.move("a", 0)
		for _, name := range []string{"b", "c", "d", "e", "f"} {
			allowed(t, "Fork", s.Fork(name, "a"))
			allowed(t, "Fork", g.fork(name, "a"))
		}
		for range 100 {
			weave(t, r, s, g, joined)
			if state(s) != g.state() {
				t.Fatalf("the store is\n%s\nwant\n%s", state(s), g.state())
			}
		}
		sameBases(t, s, g, based, latest)
	}
	for _, e := range []Errno{OK, ErrMany, ErrKind, ErrBlock, ErrCount, ErrSame} {
		if joined[e] == 0 {
			t.Errorf("no join answered the error %d", e)
		}
	}
	for n := range 4 {
		if latest[n] == 0 {
			t.Errorf("no two commits had %d latest common ones", n)
		}
	}
}

// Every call ends and none panics, at all numbers and strings.
func TestNoCallPanics(t *testing.T) {
	words := slices.Concat([]string{"a", "b", "x/n"}, noNames, noPaths, noTexts)
	numbers := []int{0, 1, -1, 60, 61, 255, 256, math.MaxInt, math.MinInt}
	s := Open("\xff")
	for _, w := range words {
		s.Branch(w)
		Open(w).Branch(w)
	}
	for _, w := range words {
		for _, v := range words {
			s.Fork(w, v)
			s.Join(w, v)
			s.Delete(w, v)
			s.Note(w, v, v)
			s.Put(w, v, w)
			s.Take(w, v, w)
			for _, n := range numbers {
				s.Add(w, v, n)
			}
		}
		s.Commit(w)
		s.History(w)
		s.Show(w)
		s.Drop(w)
	}
	for _, n := range numbers {
		for _, m := range numbers {
			s.Base(n, m)
		}
		s.Tree(n)
	}
	s.Pack()
	hasBranches(t, s)
}
