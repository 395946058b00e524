package mark_test

import (
	"fmt"
	"slices"
	"testing"

	"ballast/api"
	"ballast/blocks"
	"ballast/cells"
	"ballast/mark"
)

// example is chapter 4's heap: 1 refers to 5, a filler stands at 8.
func example(t *testing.T) *cells.Cells {
	t.Helper()
	c := cells.New(11)
	blocks.Lay(c, classList(), 1, pair, 0)
	blocks.Lay(c, classList(), 5, arrayOfWords, 2)
	blocks.Fill(c, 8, 11)
	c.Put(2, 5)
	return c
}

// The chapter's examples.
func TestExamples(t *testing.T) {
	g := made(t, "one worker", example(t), 1, 2, 1)
	g.Root(1, 0)
	g.end()
	sameList(t, "marked", g.marked(), []int{1, 5})
	same(t, "the size of 1", g.bits.Size(1), 4)
	same(t, "the size of 5", g.bits.Size(5), 3)
	sameList(t, "Seen", g.Seen(), []int{2})
	same(t, "Fault", g.Fault(), api.OK)

	g = made(t, "a filler", example(t), 1, 2, 1)
	g.Root(8)
	g.end()
	same(t, "Fault", g.Fault(), api.ErrHeap)
	same(t, "marks", g.marks(), 0)
}

// P11.3: Done is false till the last one has ended, in whatever order.
func TestDone(t *testing.T) {
	for _, workers := range []int{1, 2, 3, 64} {
		g := made(t, fmt.Sprint(workers, " workers"), example(t), workers, 2, 1)
		g.Root(1)
		same(t, g.what+": at first", g.Done(), false)
		ended := make([]int, workers)
		for n := 0; slices.Contains(ended, 0) && n < g.most(); n++ {
			same(t, g.what+": ahead of the last one's end", g.Done(), false)
			worker := workers - 1 - n%workers
			if g.Step(worker) == api.End {
				ended[worker] = 1
			}
		}
		same(t, g.what+": behind it", g.Done(), true)
		for worker := range workers {
			same(t, g.what+": a step behind it", g.Step(worker), api.End)
		}
		same(t, g.what+": still", g.Done(), true)
		same(t, g.what+": all are idle", g.idle(), int64(workers))
	}
}

// P11.3: an object is seen by who scanned it, once all of its references are
// read.
func TestSeen(t *testing.T) {
	heap, at := heapOf(t, [2]int{arrayOfRefs, 3}, [2]int{bare, 0}, [2]int{arrayOfWords, 4}, [2]int{arrayOfRefs, 0})
	g := made(t, "an array of none, two workers", heap, 2, 2, 1)
	g.Root(at[0], at[1])
	read := 0
	for n := 0; g.Seen()[0] == 0 && n < 1000; n++ {
		read = g.heap.Steps()
		g.Step(0)
	}
	same(t, "reads of the heap ahead of the last reference", read, 1+1+2)
	same(t, "reads of the heap", g.heap.Steps(), 1+1+3)
	sameList(t, "behind the array", g.Seen(), []int{1, 0})
	for n := 0; g.Seen()[1] == 0 && n < 1000; n++ {
		g.Step(1)
	}
	sameList(t, "behind the other one's", g.Seen(), []int{1, 1})
	g.end()
	sameList(t, "in the end", g.Seen(), []int{1, 1})

	for _, ref := range at[1:] {
		g := made(t, fmt.Sprint("without references, at ", ref), heap, 1, 2, 1)
		g.Root(ref)
		g.end()
		sameList(t, g.what, g.Seen(), []int{1})
	}
}

// R3: what Seen tells is the caller's.
func TestSeenIsTheCallers(t *testing.T) {
	g := made(t, "Seen", example(t), 2, 2, 1)
	ahead := g.Seen()
	g.Root(1)
	g.end()
	sameList(t, "what was told ahead", ahead, []int{0, 0})
	told := g.Seen()
	want := slices.Clone(told)
	same(t, "seen", sum(told), 2)
	told[0], told[1] = 99, -99
	_ = append(told[:1], 5)
	sameList(t, "told again", g.Seen(), want)
}

// P11.3: without roots nothing is seen, and nothing is wrong.
func TestWithoutRoots(t *testing.T) {
	for _, workers := range []int{1, 2, 7, 64} {
		for name, heap := range map[string]*cells.Cells{"no cells": cells.New(0), "some": example(t), "words that are no blocks": cells.New(50)} {
			g := made(t, fmt.Sprint(name, ", ", workers, " workers"), heap, workers, 1, 0)
			g.end()
			sameList(t, g.what+": Seen", g.Seen(), make([]int, workers))
			same(t, g.what+": Fault", g.Fault(), api.OK)
			same(t, g.what+": marks", g.marks(), 0)
			same(t, g.what+": reads of the heap", heap.Steps(), 0)
		}
	}
}

// The chapter's nil marker, at each call.
func TestNil(t *testing.T) {
	var m *mark.Marker
	m.Root()
	m.Root(1, 0, -5)
	for _, worker := range append(far(), 0, 1) {
		same(t, fmt.Sprint("Step ", worker), m.Step(worker), api.End)
	}
	same(t, "Done", m.Done(), true)
	same(t, "Seen", len(m.Seen()), 0)
	same(t, "Fault", m.Fault(), api.ErrArg)
}

// P1: a zero marker is none.
func TestZero(t *testing.T) {
	m := &mark.Marker{}
	m.Root()
	m.Root(1, 0, -5)
	for _, worker := range append(far(), 0, 1) {
		same(t, fmt.Sprint("Step ", worker), m.Step(worker), api.End)
	}
	same(t, "Done", m.Done(), true)
	same(t, "Seen", len(m.Seen()), 0)
	same(t, "Fault", m.Fault(), api.ErrArg)
}
