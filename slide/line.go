package slide

import (
	"container/heap"
	"slices"
	"sort"
)

// line is what ready regions stand in: a heap, by which the least one comes out
// first.
type line interface {
	heap.Interface
	rising() []int
}

// regions is a line of numbers, which have their order from what it embeds.
type regions struct{ sort.IntSlice }

// Push and Pop are for container/heap alone: at the end of the numbers.
func (r *regions) Push(region any) {
	number, _ := region.(int)
	r.IntSlice = append(r.IntSlice, number)
}

func (r *regions) Pop() any {
	last := r.Len() - 1
	region := r.IntSlice[last]
	r.IntSlice = r.IntSlice[:last]
	return region
}

// rising is a list of its own: a heap's numbers have no order but that the
// least one is the first.
func (r *regions) rising() []int { return slices.Sorted(slices.Values(r.IntSlice)) }

// lineUp has a region stand in line, if it is ready. It is asked once where the
// region waits for none, so that none stands there twice.
func (s *Slider) lineUp(region int) {
	if s.waits[region] == 0 && s.hasGoal(region) {
		heap.Push(s.ready, region)
	}
}

// least takes the least region out of the line.
func (s *Slider) least() (int, bool) {
	if s.ready.Len() == 0 {
		return 0, false
	}
	region, ok := heap.Pop(s.ready).(int)
	return region, ok
}
