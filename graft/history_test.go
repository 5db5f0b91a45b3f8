package graft

import (
	"math/rand"
	"runtime"
	"slices"
	"testing"
	"time"
)

func TestHistory(t *testing.T) {
	s := planted(t)
	hasHistory(t, s, "a")
	allowed(t, "Add", s.Add("a", "n", 1))
	hasHistory(t, s, "a")
	commits(t, s, "a", 1)
	hasHistory(t, s, "a", 1)
	allowed(t, "Fork", s.Fork("b", "a"))
	allowed(t, "Add", s.Add("a", "n", 1))
	hasHistory(t, s, "a", 1)
	commits(t, s, "a", 2)
	allowed(t, "Add", s.Add("b", "n", 2))
	commits(t, s, "b", 3)
	allowed(t, "Fork", s.Fork("c", "b"))
	allowed(t, "Add", s.Add("c", "n", 3))
	commits(t, s, "c", 4)
	allowed(t, "Add", s.Add("a", "n", 4))
	commits(t, s, "a", 5)
	hasHistory(t, s, "a", 5, 2, 1)
	hasHistory(t, s, "b", 3, 1)
	hasHistory(t, s, "c", 4, 3, 1)
}

func TestHistoryOfABranchMadeAnew(t *testing.T) {
	s := planted(t)
	allowed(t, "Add", s.Add("a", "n", 1))
	commits(t, s, "a", 1)
	allowed(t, "Fork", s.Fork("b", "a"))
	allowed(t, "Drop", s.Drop("a"))
	hasHistory(t, s, "b", 1)
	allowed(t, "Branch", s.Branch("a"))
	hasHistory(t, s, "a")
	allowed(t, "Add", s.Add("a", "n", 1))
	commits(t, s, "a", 2)
	hasHistory(t, s, "a", 2)
}

func TestHistoryOfNobody(t *testing.T) {
	s := planted(t)
	allowed(t, "Add", s.Add("a", "n", 1))
	commits(t, s, "a", 1)
	for _, name := range append([]string{"b", "aa"}, noNames...) {
		if got, e := s.History(name); got != nil || e != ErrBranch {
			t.Errorf("History(%.20q) = %v, %d, want nothing and ErrBranch", name, got, e)
		}
	}
}

func TestHistoriesAreNewMemory(t *testing.T) {
	s := planted(t)
	for n := range 3 {
		allowed(t, "Add", s.Add("a", "n", 1))
		commits(t, s, "a", n+1)
	}
	first, _ := s.History("a")
	second, _ := s.History("a")
	first[0], first[1], first[2] = 7, 8, 9
	_ = append(first[:1], 5)
	if !slices.Equal(second, []int{3, 2, 1}) {
		t.Errorf("two answers share memory: %v", second)
	}
	hasHistory(t, s, "a", 3, 2, 1)
	allowed(t, "Add", s.Add("a", "n", 1))
	commits(t, s, "a", 4)
	if !slices.Equal(second, []int{3, 2, 1}) {
		t.Errorf("a later call changed an answer: %v", second)
	}
}

// laid: a store whose commits have these parents, and whose branch a has the
// last of them as its head.
func laid(t *testing.T, parents ...[]int) *Store {
	t.Helper()
	var records []string
	for _, p := range parents {
		records = append(records, planting{parents: p}.record())
	}
	return opened(t, append(records, byHand('B', string(rune(len(parents)))+"a"))...)
}

// A commit that is reached by several ways is told once.
func TestHistoryOfTwoParents(t *testing.T) {
	hasHistory(t, laid(t, nil, []int{1}, []int{1}, []int{2, 3}), "a", 4, 3, 2, 1)
	hasHistory(t, laid(t, nil, []int{1}, []int{1}, []int{3, 2}), "a", 4, 3, 2, 1)
	hasHistory(t, laid(t, nil, nil, nil, []int{1, 3}), "a", 4, 3, 1)
	hasHistory(t, laid(t, nil, nil, []int{1, 2}, []int{2, 1}, []int{3, 4}), "a", 5, 4, 3, 2, 1)
	hasHistory(t, laid(t, nil, []int{1}, []int{1, 2}, []int{1, 3}), "a", 4, 3, 2, 1)
	hasHistory(t, laid(t, nil, nil, []int{1}, []int{2}, []int{1}, []int{5, 3}), "a", 6, 5, 3, 1)
}

// reached tells a history as the document has it: a commit, and the histories
// of its parents.
func reached(s *Store, head int, into map[int]int) {
	into[head] = 1
	for _, p := range s.commits[head-1].parents {
		if into[p] == 0 {
			reached(s, p, into)
		}
	}
}

func TestHistoryOfManyParents(t *testing.T) {
	r := rand.New(rand.NewSource(1))
	for range 300 {
		parents := make([][]int, 1+r.Intn(maxCommits))
		for i := range parents {
			parents[i] = r.Perm(i)[:min(i, r.Intn(3))]
			for k := range parents[i] {
				parents[i][k]++
			}
		}
		s := laid(t, parents...)
		all := map[int]int{}
		reached(s, len(parents), all)
		var want []int
		for n := len(parents); n > 0; n-- {
			if all[n] > 0 {
				want = append(want, n)
			}
		}
		hasHistory(t, s, "a", want...)
	}
}

// The ways down to the first commit grow with each one like Fibonacci's
// numbers: who went all of them would not end.
func TestHistoryOfManyWays(t *testing.T) {
	parents := [][]int{nil, {1}}
	want := []int{2, 1}
	for n := 3; n <= maxCommits; n++ {
		parents = append(parents, []int{n - 1, n - 2})
		want = slices.Insert(want, 0, n)
	}
	hasHistory(t, laid(t, parents...), "a", want...)
}

func TestHistoryLeavesNoGoroutine(t *testing.T) {
	s := laid(t, nil, []int{1}, []int{1}, []int{3, 2})
	allowed(t, "Branch", s.Branch("b"))
	before := runtime.NumGoroutine()
	for range 200 {
		hasHistory(t, s, "a", 4, 3, 2, 1)
		hasHistory(t, s, "b")
		s.History("nobody")
	}
	hasEnded(t, before)
}

// hasEnded: no more goroutines than before go on. One that has sent its last
// number may need a moment to be gone.
func hasEnded(t *testing.T, before int) {
	t.Helper()
	for range 100 {
		if runtime.NumGoroutine() <= before {
			return
		}
		time.Sleep(10 * time.Millisecond)
	}
	t.Errorf("goroutines ahead: %d, behind: %d", before, runtime.NumGoroutine())
}
