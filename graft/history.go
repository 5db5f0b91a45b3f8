package graft

// history answers the numbers of a head's history, the greatest first. It
// ranges over the channel to its end, so that the goroutine has ended with it.
func (s *Store) history(head int) []int {
	told := make(chan int)
	go s.tell(head, told)
	var numbers []int
	for n := range told {
		numbers = append(numbers, n)
	}
	return numbers
}

// tell sends the numbers of a head's history, the greatest first, and closes
// the channel behind them. Parents have lower numbers than their children: a
// commit that is reached by several ways has been met by all of them when it
// comes to the top, and so the same numbers come one right behind the other.
func (s *Store) tell(head int, told chan<- int) {
	defer close(told)
	var next heap
	if head != 0 {
		next.push(head)
	}
	last := 0
	for len(next) > 0 {
		n := next.pop()
		if n == last {
			continue
		}
		last = n
		told <- n
		for _, parent := range s.commits[n-1].parents {
			next.push(parent)
		}
	}
}
