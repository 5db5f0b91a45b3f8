package graft

import (
	"fmt"
	"math"
	"math/rand"
	"runtime"
	"slices"
	"testing"
)

func TestBase(t *testing.T) {
	s := planted(t)
	allowed(t, "Branch", s.Branch("z"))
	lays(t, s, "a", "k #1\n")
	commits(t, s, "a", 1)
	lays(t, s, "a", "k #2\n")
	commits(t, s, "a", 2)
	allowed(t, "Fork", s.Fork("b", "a"))
	lays(t, s, "a", "k #3\n")
	commits(t, s, "a", 3)
	lays(t, s, "b", "l *x;y\n")
	commits(t, s, "b", 4)
	lays(t, s, "z", "k #5\n")
	commits(t, s, "z", 5)
	hasBase(t, s, 3, 4, "k #2\n")
	hasBase(t, s, 3, 1, "k #1\n")
	hasBase(t, s, 4, 2, "k #2\n")
	for n, tree := range []string{"k #1\n", "k #2\n", "k #3\n", "l *x;y\n", "k #5\n"} {
		hasBase(t, s, n+1, n+1, tree)
		if n < 4 {
			hasBase(t, s, 5, n+1, "")
		}
	}
	joins(t, s, "a", "b", 6)
	hasBase(t, s, 6, 4, "l *x;y\n")
	hasBase(t, s, 6, 3, "k #3\n")
	// What is at work on, and which branches there are, has no part in it.
	allowed(t, "Add", s.Add("a", "k", 1))
	allowed(t, "Drop", s.Drop("b"))
	hasBase(t, s, 3, 4, "k #2\n")
}

func TestBaseOfNoCommit(t *testing.T) {
	s := New()
	hasNoBase(t, s, 0, 0, ErrAbsent)
	hasNoBase(t, s, 1, 1, ErrAbsent)
	s = spoilt(t)
	for _, absent := range []int{0, -1, 7, 60, 61, 255, 256, 257, math.MaxInt, math.MinInt} {
		hasNoBase(t, s, absent, absent, ErrAbsent)
		for n := range 6 {
			hasNoBase(t, s, absent, n+1, ErrAbsent)
		}
	}
	hasNoBase(t, s, 5, 6, ErrKind)
}

// sketched: a store whose commits have these parents and trees.
func sketched(t *testing.T, sketch ...planting) *Store {
	t.Helper()
	var records []string
	for _, p := range sketch {
		records = append(records, p.record())
	}
	return opened(t, records...)
}

// heads: gives a store's new branches a and b these heads.
func heads(t *testing.T, s *Store, a int, b int) {
	t.Helper()
	for i, name := range []string{"a", "b"} {
		s.point(name, []int{a, b}[i])
	}
}

// at: a commit whose tree is this value at k, and nothing else.
func at(value string, parents ...int) planting {
	if value == "" {
		return planting{parents: parents, tree: model{}}
	}
	return planting{parents: parents, tree: model{"k": value}}
}

// spoilt: the commits 5 and 6 have two latest common ones, 1 and 2, which
// can't be joined.
func spoilt(t *testing.T) *Store {
	t.Helper()
	return sketched(t, at("#1"), at("=x"), at("", 1), at("", 2), at("#1", 3, 2), at("=x", 4, 1))
}

// Two branches that were joined in both ways round: two latest common commits.
func TestBaseOfTwoLatest(t *testing.T) {
	s := planted(t)
	lays(t, s, "a", "k #1\nl =a\nm *p;q\n")
	commits(t, s, "a", 1)
	allowed(t, "Fork", s.Fork("b", "a"))
	lays(t, s, "a", "k #11\nl =b\nm *p;r\n")
	commits(t, s, "a", 2)
	lays(t, s, "b", "k #101\nl =c\nm *q;s\n")
	commits(t, s, "b", 3)
	allowed(t, "Fork", s.Fork("c", "a"))
	joins(t, s, "a", "b", 4)
	joins(t, s, "b", "c", 5)
	hasHistory(t, s, "b", 5, 3, 2, 1)
	hasBase(t, s, 4, 5, "k #111\nl =c\nm *r;s\n")
	lays(t, s, "a", "k #1111\nl =a\nm *r\n")
	commits(t, s, "a", 6)
	lays(t, s, "b", "k #10111\nl =a0\nm *r;s;t\n")
	commits(t, s, "b", 7)
	hasBase(t, s, 6, 7, "k #111\nl =c\nm *r;s\n")
	hasBase(t, s, 6, 5, "k #111\nl =c\nm *r;s\n")
	hasBase(t, s, 6, 4, "k #111\nl =c\nm *r;s\n")
	joins(t, s, "a", "b", 8)
	shows(t, s, "a", "k #11111\nl =a0\nm *r;t\n")
}

// Joined crosswise, again and again, each round counts once.
func TestBaseOfManyRounds(t *testing.T) {
	s := planted(t)
	allowed(t, "Branch", s.Branch("b"))
	for round := range 14 {
		for _, branch := range []string{"a", "b"} {
			allowed(t, "Add", s.Add(branch, "k", 1))
			commits(t, s, branch, len(s.commits)+1)
		}
		allowed(t, "Fork", s.Fork("c", "a"))
		joins(t, s, "a", "b", 4*round+3)
		joins(t, s, "b", "c", 4*round+4)
		allowed(t, "Drop", s.Drop("c"))
		want := fmt.Sprintf("k #%d\n", 2*round+2)
		shows(t, s, "a", want)
		shows(t, s, "b", want)
		hasBase(t, s, 4*round+3, 4*round+4, want)
	}
}

// Three latest common commits, 3, 4 and 5: the third one is joined with the
// base of the second and the third. 2 is where two of them parted.
func TestBaseOfThreeLatest(t *testing.T) {
	tips := []planting{at("", 3, 4), at("", 6, 5), at("", 5, 4), at("", 8, 3)}
	apart := []planting{at("#1"), at("#11", 1)}
	for _, c := range []struct {
		three []planting
		want  string
	}{
		{[]planting{at("#101", 1), at("#1011", 2), at("#10011", 2)}, "k #11111\n"},
		{[]planting{at("#111", 2), at("#1011", 2), at("#10001", 1)}, "k #11111\n"},
		// The first and the third parted late: what they had together by then
		// is counted twice.
		{[]planting{at("#111", 2), at("#1001", 1), at("#10011", 2)}, "k #11121\n"},
	} {
		s := sketched(t, slices.Concat(apart, c.three, tips)...)
		if got := s.latest(7, 9); !slices.Equal(got, []int{3, 4, 5}) {
			t.Fatalf("the latest are %v", got)
		}
		hasBase(t, s, 7, 9, c.want)
	}
}

// noneCan: the base of two commits can't be made, by this error, and so can't
// the join of them.
func noneCan(t *testing.T, s *Store, a int, b int, want Errno) {
	t.Helper()
	hasNoBase(t, s, a, b, want)
	heads(t, s, a, b)
	joinsNot(t, s, "a", "b", want)
	joinsNot(t, s, "b", "a", want)
}

// The latest ones are joined in the order of their numbers: the error is the
// first one on this way.
func TestBaseErrorsInOrder(t *testing.T) {
	most := "#1000000000"
	for _, c := range []struct {
		one, two, three string
		want            Errno
	}{
		{most, most, "=", ErrCount},
		{most, "=", most, ErrKind},
		{"=", most, most, ErrKind},
		{"#1", "#2", "=", ErrKind},
		{"#1", "#2", most, ErrCount},
		{"*a;b;c", "*d;e;f", "*g;h;i", ErrMany},
		{"", "#1", "=", ErrKind},
		{"#1", "", "=", ErrKind},
		{"#1", "=", "", ErrKind},
	} {
		tips := []planting{at("", 1, 2), at("#1", 4, 3), at("", 3, 2), at("=", 6, 1)}
		s := sketched(t, append([]planting{at(c.one), at(c.two), at(c.three)}, tips...)...)
		noneCan(t, s, 5, 7, c.want)
	}
}

// The errors of the base come ahead of those of the join of both trees.
func TestBaseErrorsAheadOfJoins(t *testing.T) {
	noneCan(t, spoilt(t), 5, 6, ErrKind)
	most := "#1000000000"
	noneCan(t, sketched(t, at(most), at("#1"), at("#1", 1, 2), at("=x", 2, 1)), 3, 4, ErrCount)
	noneCan(t, sketched(t, at("#1"), at("=x"), at(most, 1, 2), at(most, 2, 1)), 3, 4, ErrKind)
	// Without the base both would join.
	noneCan(t, sketched(t, at("#1"), at("=x"), at("#1", 1, 2), at("#1", 2, 1)), 3, 4, ErrKind)
	noneCan(t, sketched(t, at("#1"), at("=x"), at("", 1, 2), at("", 2, 1)), 3, 4, ErrKind)
}

func TestBaseOfPathsInTheWay(t *testing.T) {
	block := planting{tree: model{"k/l": "=x"}}
	noneCan(t, sketched(t, at("#1"), block, at("", 1, 2), at("", 2, 1)), 3, 4, ErrBlock)
	one, two := planting{tree: model{}}, planting{tree: model{}}
	for i := range 13 {
		one.tree[fmt.Sprintf("a%d", i)] = "="
		two.tree[fmt.Sprintf("b%d", i)] = "="
	}
	noneCan(t, sketched(t, one, two, at("", 1, 2), at("", 2, 1)), 3, 4, ErrMany)
	delete(one.tree, "a0")
	delete(two.tree, "b0")
	s := sketched(t, one, two, at("", 1, 2), at("", 2, 1))
	hasBase(t, s, 3, 4, one.tree.written()+two.tree.written())
}

// The base of the latest ones themselves can't be made.
func TestBaseOfNoBase(t *testing.T) {
	s := sketched(t, at("#1"), at("=x"), at("", 1, 2), at("", 2, 1), at("", 3, 4), at("", 4, 3))
	hasNoBase(t, s, 3, 4, ErrKind)
	noneCan(t, s, 5, 6, ErrKind)
	// Of three, it is that of the last two, and the first two come before it.
	for _, c := range []struct {
		one, two string
		want     Errno
	}{
		{"", "", ErrKind},
		{"#1000000000", "#1", ErrCount},
		{"#1", "#1", ErrKind},
	} {
		s := sketched(t, at("#1"), at("=x"),
			at(c.one), at(c.two, 1, 2), at("", 2, 1),
			at("", 3, 4), at("", 6, 5), at("", 5, 4), at("", 8, 3))
		if got := s.latest(7, 9); !slices.Equal(got, []int{3, 4, 5}) {
			t.Fatalf("the latest are %v", got)
		}
		noneCan(t, s, 7, 9, c.want)
	}
}

// What several commits have in common is asked of any number of them.
func TestCommon(t *testing.T) {
	s := laid(t, nil, []int{1}, []int{1}, []int{2, 3}, []int{3, 2}, nil, []int{3})
	for _, c := range []struct {
		commits, common, latest []int
	}{
		{nil, nil, nil},
		{[]int{4}, []int{4, 3, 2, 1}, []int{4}},
		{[]int{6}, []int{6}, []int{6}},
		{[]int{4, 4}, []int{4, 3, 2, 1}, []int{4}},
		{[]int{4, 5}, []int{3, 2, 1}, []int{2, 3}},
		{[]int{4, 5, 7}, []int{3, 1}, []int{3}},
		{[]int{7, 2}, []int{1}, []int{1}},
		{[]int{7, 4, 2, 5}, []int{1}, []int{1}},
		{[]int{4, 5, 6}, nil, nil},
		{[]int{6, 4}, nil, nil},
	} {
		if got := s.common(c.commits...); !slices.Equal(got, c.common) {
			t.Errorf("common of %v: %v, want %v", c.commits, got, c.common)
		}
		if got := s.latest(c.commits...); !slices.Equal(got, c.latest) {
			t.Errorf("latest of %v: %v, want %v", c.commits, got, c.latest)
		}
	}
}

// All bases of histories that were joined at random are the model's.
func TestBaseOfManyParents(t *testing.T) {
	r := rand.New(rand.NewSource(4))
	seen, latest := map[Errno]int{}, map[int]int{}
	values := []string{"", "#1", "#7", "#600000000", "#-600000000"}
	for range 40 {
		g := &grove{}
		for i := range 8 + r.Intn(18) {
			// Of the last few commits, so that many ways cross.
			parents := r.Perm(min(i, 8))[:min(i, []int{0, 1, 2, 2, 2, 2, 2, 2}[r.Intn(8)])]
			for k := range parents {
				parents[k] = i - parents[k]
			}
			g.commits = append(g.commits, at(values[r.Intn(5)], parents...))
		}
		sameBases(t, sketched(t, g.commits...), g, seen, latest)
	}
	if seen[OK] == 0 || seen[ErrCount] == 0 || latest[3] == 0 {
		t.Errorf("the bases were too plain: %v, %v", seen, latest)
	}
}

// Each round of five commits has two ways down to the bases of the round
// ahead: who went all of them would go thousands.
func TestBaseOfManyWays(t *testing.T) {
	sketch := []planting{at("#1"), at("#1", 1), at("#1", 1), at("#1", 1)}
	for len(sketch)+5 <= maxCommits {
		n := len(sketch)
		sketch = append(sketch, at("#1", n-2, n-1), at("#1", n-1, n), at("#1", n+1, n), at("#1", n+2, n-2), at("#1", n+1, n))
	}
	s := sketched(t, sketch...)
	n := len(sketch)
	if got := s.latest(n-1, n); len(got) != 3 {
		t.Fatalf("the latest are %v", got)
	}
	hasBase(t, s, n-1, n, "k #1\n")
}

func TestJoinsLeaveNoGoroutine(t *testing.T) {
	before := runtime.NumGoroutine()
	for range 50 {
		s := spoilt(t)
		s.Base(5, 6)
		s.Base(3, 6)
		s.Base(0, 6)
		heads(t, s, 5, 6)
		s.Join("a", "b")
		s.Join("a", "a")
		s = parted(t, "", "k #1\n", "k #2\n")
		s.Join("a", "b")
		s.Join("b", "a")
	}
	hasEnded(t, before)
}
