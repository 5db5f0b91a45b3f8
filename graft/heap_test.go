package graft

import (
	"math/rand"
	"slices"
	"testing"
)

func TestHeapGivesTheGreatestFirst(t *testing.T) {
	for _, numbers := range [][]int{
		{1}, {1, 2}, {2, 1}, {3, 1, 2}, {1, 2, 3, 4, 5, 6, 7}, {7, 6, 5, 4, 3, 2, 1}, {4, 4, 4}, {2, 9, 2, 9, 1},
	} {
		var h heap
		for _, n := range numbers {
			h.push(n)
		}
		var got []int
		for len(h) > 0 {
			got = append(got, h.pop())
		}
		want := slices.Clone(numbers)
		slices.Sort(want)
		slices.Reverse(want)
		if !slices.Equal(got, want) {
			t.Errorf("of %v the heap gave %v", numbers, got)
		}
	}
}

func TestHeapAgainstASortedList(t *testing.T) {
	r := rand.New(rand.NewSource(1))
	var h heap
	var sorted []int
	for range 20000 {
		if len(sorted) > 0 && r.Intn(40) < len(sorted) {
			want := sorted[len(sorted)-1]
			sorted = sorted[:len(sorted)-1]
			if got := h.pop(); got != want {
				t.Fatalf("the heap gave %d, want %d", got, want)
			}
			continue
		}
		n := r.Intn(60)
		h.push(n)
		i, _ := slices.BinarySearch(sorted, n)
		sorted = slices.Insert(sorted, i, n)
	}
}
