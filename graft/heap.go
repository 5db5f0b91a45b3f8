package graft

// heap gives its numbers back the greatest first: no number in it is greater
// than the one above it, which for the place i is at (i-1)/2.
type heap []int

func (h *heap) push(n int) {
	*h = append(*h, n)
	h.siftUp(len(*h) - 1)
}

// pop takes the greatest number out; there must be one.
func (h *heap) pop() int {
	old := *h
	top, last := old[0], len(old)-1
	old[0] = old[last]
	*h = old[:last]
	h.siftDown(0)
	return top
}

func (h heap) siftUp(i int) {
	for i > 0 {
		above := (i - 1) / 2
		if h[i] <= h[above] {
			return
		}
		h[i], h[above] = h[above], h[i]
		i = above
	}
}

func (h heap) siftDown(i int) {
	for {
		most := h.greatest(i, 2*i+1, 2*i+2)
		if most == i {
			return
		}
		h[i], h[most] = h[most], h[i]
		i = most
	}
}

// greatest answers where the greatest number is, of the place i and of those
// below it, left and right, that the heap has.
func (h heap) greatest(i int, left int, right int) int {
	if left < len(h) && h[left] > h[i] {
		i = left
	}
	if right < len(h) && h[right] > h[i] {
		i = right
	}
	return i
}
