package mark_test

import (
	"fmt"
	"math"
	"slices"
	"testing"

	"ballast/api"
	"ballast/bits"
	"ballast/cells"
	"ballast/classes"
	"ballast/mark"
)

// P11.2: a ref's way: its header is read, the block is marked, and who marked
// it pushes it to its own deque.
func TestWayOfARef(t *testing.T) {
	for worker := range 3 {
		heap, at := heapOf(t, [2]int{pair, 0}, [2]int{arrayOfWords, 2})
		heap.Put(int(at[0])+1, at[1])
		g := made(t, fmt.Sprint("worker ", worker), heap, 3, 2, 1)
		g.Root(make([]int64, worker)...)
		g.Root(at[0])
		same(t, "read", g.Step(worker), api.Go)
		same(t, "the header is an access of the heap", heap.Steps(), 1)
		same(t, "it is not marked yet", g.marks(), 0)
		same(t, "marked", g.Step(worker), api.Go)
		same(t, "to mark is no access", g.accesses(), 1)
		sameList(t, "what is marked", g.marked(), []int{int(at[0])})
		same(t, "by its size", g.bits.Size(int(at[0])), 4)
		g.steps(worker, 4)
		same(t, "a push", g.control.Steps(), 4)
		for i := range 3 {
			want := []int64(nil)
			if i == worker {
				want = at[:1]
			}
			sameList(t, fmt.Sprintf("%s: what lies in deque %d", g.what, i), g.deque(i).Items(), want)
		}
		same(t, "nobody is idle", g.idle(), 0)
		same(t, "nothing else was read", heap.Steps(), 1)
	}
}

// P11.2: a ref that was read is taken ahead of the object's next one.
func TestRefsGoFirst(t *testing.T) {
	const n = 5
	g := made(t, "refs go first", fan(t, n), 1, 2, 1)
	g.Root(1)
	for k := 1; k <= 1+n; k++ {
		for range 100 {
			if g.marks() < k {
				g.Step(0)
			}
		}
		want := 1
		if k > 1 {
			want = 2 + 2*(k-1)
		}
		same(t, fmt.Sprint("reads of the heap at the mark ", k), g.heap.Steps(), want)
	}
}

// P11.2: a step of who isn't there, and of who has ended, does nothing.
func TestStepOfNobody(t *testing.T) {
	g := made(t, "nobody", example(t), 2, 2, 1)
	g.Root(1, 5)
	nothing := func(what string, workers ...int) {
		t.Helper()
		words, accesses, marked, seen := g.control.Words(0, g.control.Len()), g.accesses(), g.marked(), g.Seen()
		for _, worker := range workers {
			same(t, fmt.Sprint(what, ": Step ", worker), g.Step(worker), api.End)
		}
		sameList(t, what+": control", g.control.Words(0, g.control.Len()), words)
		same(t, what+": accesses", g.accesses(), accesses)
		sameList(t, what+": marked", g.marked(), marked)
		sameList(t, what+": Seen", g.Seen(), seen)
	}
	none := append(far(), -2, 2, 3, 64)
	nothing("at first", none...)
	g.steps(0, 3)
	nothing("in the midst", none...)
	same(t, "not done by that", g.Done(), false)
	g.end()
	nothing("at the end", append(none, 0, 1, 0, 1)...)

	g = made(t, "one has ended", bares(t, 1), 2, 2, 1)
	n := 0
	for ; g.Step(n%2) == api.Go && n < 1000; n++ {
	}
	nothing("one has ended", n%2, n%2)
	same(t, "not both have", g.Done(), false)
}

// P11.2: 0 is dropped, without an access, and is no fault.
func TestNone(t *testing.T) {
	g := made(t, "zeros", example(t), 1, 2, 1)
	g.Root(0, 0, 0)
	g.steps(0, 3)
	same(t, "accesses", g.accesses(), 0)
	g.end()
	same(t, "reads of the heap", g.heap.Steps(), 0)
	same(t, "marks", g.marks(), 0)
	same(t, "Fault", g.Fault(), api.OK)

	heap, _ := heapOf(t, [2]int{bare, 0})
	heap.Put(0, heap.Words(1, 2)...)
	g = made(t, "an object at 0", heap, 1, 2, 1)
	g.Root(0)
	g.end()
	same(t, g.what+": marks", g.marks(), 0)
	same(t, g.what+": Fault", g.Fault(), api.OK)
}

// P11.2: what is no object's address is dropped: nothing is marked, and Fault
// tells ErrHeap from then on.
func TestFaults(t *testing.T) {
	l := classList()
	for name, x := range map[string]struct {
		ref int64
		put map[int]int64
	}{
		"a filler":                         {ref: 8},
		"a filler of its header alone":     {ref: 10, put: map[int]int64{10: classes.Header(0, 0)}},
		"an object's middle":               {ref: 2},
		"an object's last word":            {ref: 7},
		"ahead of the heap":                {ref: -1},
		"behind the heap":                  {ref: 11},
		"far behind it":                    {ref: 1 << 32},
		"an object's, and 2 to the 32":     {ref: 1<<32 + 1},
		"an object's, and 2 to the 63":     {ref: math.MinInt64 + 1},
		"the least of all":                 {ref: math.MinInt64},
		"the greatest of all":              {ref: math.MaxInt64},
		"a header itself":                  {ref: classes.Header(pair, 0)},
		"a class that isn't there":         {ref: 9, put: map[int]int64{9: classes.Header(len(l)+1, 0)}},
		"a class far from all":             {ref: 9, put: map[int]int64{9: classes.Header(1<<24-1, 0)}},
		"a length that may not be":         {ref: 5, put: map[int]int64{5: classes.Header(pair, 1)}},
		"an array that is too long":        {ref: 5, put: map[int]int64{5: classes.Header(arrayOfRefs, api.MaxLen+1)}},
		"an object that goes beyond cells": {ref: 8, put: map[int]int64{8: classes.Header(pair, 0)}},
		"an array that does so by a word":  {ref: 5, put: map[int]int64{5: classes.Header(arrayOfRefs, 6)}},
		"a word that is no header":         {ref: 9, put: map[int]int64{9: -1}},
		"a header with another bit":        {ref: 9, put: map[int]int64{9: classes.Header(bare, 0) | math.MinInt64}},
	} {
		for _, times := range []int{1, 2, 3} {
			workers := 4 - times
			heap := example(t)
			for at, w := range x.put {
				heap.Put(at, w)
			}
			g := made(t, fmt.Sprint(name, ", ", times, " times"), heap, workers, 2, 1)
			g.Root(slices.Repeat([]int64{x.ref}, times)...)
			same(t, g.what+": at first", g.Fault(), api.OK)
			same(t, g.what+": within the bound", g.end() <= g.most(), true)
			same(t, g.what+": Fault", g.Fault(), api.ErrHeap)
			same(t, g.what+": marks", g.marks(), 0)
			same(t, g.what+": seen", sum(g.Seen()), 0)
			for worker := range workers {
				g.Step(worker)
			}
			same(t, g.what+": Fault later", g.Fault(), api.ErrHeap)
		}
	}
}

// P11.2: beside a fault all goes on: the other refs of the object that has a
// wrong one, and other roots.
func TestFaultBesideOthers(t *testing.T) {
	for _, wrong := range []int64{-1, 3, 1 << 40} {
		heap, at := heapOf(t, [2]int{arrayOfRefs, 4}, [2]int{bare, 0}, [2]int{link, 0}, [2]int{bare, 0}, [2]int{bare, 0}, [2]int{bare, 0})
		first := int(at[0])
		heap.Put(first+1, at[1], wrong, 0, at[2])
		heap.Put(int(at[2])+1, at[3])
		for _, workers := range []int{1, 2, 4} {
			g := made(t, fmt.Sprint(wrong, ", ", workers, " workers"), heap, workers, 1, 0)
			g.Root(at[0], at[5])
			g.end()
			sameList(t, g.what, g.marked(), []int{first, int(at[1]), int(at[2]), int(at[3]), int(at[5])})
			same(t, g.what+": seen", sum(g.Seen()), 5)
			same(t, g.what+": Fault", g.Fault(), api.ErrHeap)
		}
	}
}

// P11.2: Fault tells ErrHeap from the wrong ref on, not ahead of it.
func TestFaultFromThenOn(t *testing.T) {
	heap, at := heapOf(t, [2]int{arrayOfRefs, 3}, [2]int{bare, 0}, [2]int{bare, 0})
	heap.Put(int(at[0])+1, at[1], 99, at[2])
	g := made(t, "from then on", heap, 1, 4, 1)
	g.Root(at[0])
	fault := api.OK
	for n := 0; !g.Done() && n < 1000; n++ {
		g.Step(0)
		if fault == api.ErrHeap {
			same(t, "behind it", g.Fault(), api.ErrHeap)
		}
		fault = g.Fault()
		if g.marks() < 2 {
			same(t, "ahead of it", fault, api.OK)
		}
		if g.marks() == 3 {
			same(t, "behind the last one", fault, api.ErrHeap)
		}
	}
	same(t, "marks", g.marks(), 3)
}

// inner is a heap of an array of words, in which stand words that look like an
// object of two words: the array's place, and that one's.
func inner(t *testing.T) (*cells.Cells, []int64) {
	heap, at := heapOf(t, [2]int{arrayOfWords, 5}, [2]int{bare, 0})
	in := at[0] + 2
	heap.Put(int(in), classes.Header(link, 0), at[1])
	return heap, []int64{at[0], in, at[1]}
}

// P11.2: a ref to words that another marked block has is dropped, whichever of
// the two comes first.
func TestWordsOfAnother(t *testing.T) {
	for _, first := range []int{0, 1} {
		heap, at := inner(t)
		g := made(t, fmt.Sprint("worker ", first, " is the first one"), heap, 2, 2, 1)
		g.Root(at[0], at[1])
		for n := 0; g.Seen()[first] == 0 && n < 100; n++ {
			g.Step(first)
		}
		same(t, g.what+": no fault yet", g.Fault(), api.OK)
		has := g.marked()
		g.end()
		same(t, g.what+": Fault", g.Fault(), api.ErrHeap)
		same(t, g.what+": the other one is not marked", g.bits.Has(int(at[1-first])), false)
		same(t, g.what+": it stays as it was", slices.Contains(has, int(at[first])), true)
		same(t, g.what+": what the inner one refers to", g.bits.Has(int(at[2])), first == 1)
		same(t, g.what+": seen", sum(g.Seen()), 1+first)
	}
}

// P11.2: a block that is marked already is nobody's to scan, whatever its
// size; it is no fault. Bits that were marked by others have a part in that.
func TestMarkedAlready(t *testing.T) {
	for _, size := range []int{4, 1, 5} {
		heap, at := heapOf(t, [2]int{pair, 0}, [2]int{arrayOfWords, 2})
		heap.Put(int(at[0])+1, at[1])
		g := made(t, fmt.Sprint("marked with ", size), heap, 1, 2, 1)
		g.bits.Mark(int(at[0]), size)
		g.Root(at[0], at[0])
		g.end()
		sameList(t, g.what, g.marked(), []int{int(at[0])})
		same(t, g.what+": its size", g.bits.Size(int(at[0])), size)
		sameList(t, g.what+": Seen", g.Seen(), []int{0})
		same(t, g.what+": Fault", g.Fault(), api.OK)
	}
	heap, at := heapOf(t, [2]int{pair, 0}, [2]int{arrayOfWords, 2})
	g := made(t, "a marked block that reaches over it", heap, 1, 2, 1)
	g.bits.Mark(int(at[1])-1, 2)
	g.Root(at[1])
	g.end()
	same(t, g.what+": Fault", g.Fault(), api.ErrHeap)
	same(t, g.what+": marks", g.marks(), 1)
}

// fan is an array at 1 that refers to so many objects of a header alone.
func fan(t *testing.T, n int) *cells.Cells {
	l := append([][2]int{{arrayOfRefs, n}}, slices.Repeat([][2]int{{bare, 0}}, n)...)
	heap, at := heapOf(t, l...)
	heap.Put(2, at[1:]...)
	return heap
}

// P11.2: what finds no room in slots and stack is kept: no other worker gets
// at it, and who has it scans it.
func TestKept(t *testing.T) {
	const n = 12
	for _, x := range []struct{ cap, over int }{{1, 0}, {2, 0}, {1, 1}, {3, 4}, {8, 3}} {
		g := made(t, fmt.Sprint(x), fan(t, n), 2, x.cap, x.over)
		g.Root(1)
		for k := 0; g.marks() < n+1 && k < 1000; k++ {
			g.Step(0)
		}
		// The last push, which finds no room, and frees the stack's lock.
		g.steps(0, 5)
		room := x.cap + x.over
		same(t, g.what+": what lies in its deque", len(g.deque(0).Items()), room)
		sameList(t, g.what+": the array alone is scanned", g.Seen(), []int{1, 0})
		for range 2000 {
			same(t, g.what+": the other one goes on", g.Step(1), api.Go)
		}
		sameList(t, g.what+": the other one has what lay there", g.Seen(), []int{1, room})
		same(t, g.what+": it offers to end", g.idle(), 1)
		same(t, g.what+": nothing is left there", len(g.deque(0).Items()), 0)
		g.end()
		sameList(t, g.what+": in the end", g.Seen(), []int{1 + n - room, room})
		same(t, g.what+": marks", g.marks(), n+1)
		same(t, g.what+": Fault", g.Fault(), api.OK)
	}
}

// P11.2: a worker steals from each other one's deque, from slots and stack.
func TestSteals(t *testing.T) {
	for owner := range 4 {
		for thief := range 4 {
			if thief == owner {
				continue
			}
			g := made(t, fmt.Sprintf("%d steals from %d", thief, owner), fan(t, 6), 4, 2, 5)
			g.Root(make([]int64, owner)...)
			g.Root(1)
			for k := 0; g.marks() < 7 && k < 1000; k++ {
				g.Step(owner)
			}
			g.steps(owner, 7)
			same(t, g.what+": what lies there", len(g.deque(owner).Items()), 6)
			g.steps(thief, 1000)
			want := make([]int, 4)
			want[owner], want[thief] = 1, 6
			sameList(t, g.what, g.Seen(), want)
			same(t, g.what+": Done", g.Done(), false)
			g.end()
			sameList(t, g.what+": in the end", g.Seen(), want)
		}
	}
}

// P11.2: who comes late to an item does not offer to end as long as another
// one lies there; wherever two thieves meet.
func TestLateThief(t *testing.T) {
	late := 0
	for ahead := range 25 {
		g := made(t, fmt.Sprint("one is ", ahead, " steps ahead"), fan(t, 2), 3, 2, 0)
		g.Root(1)
		for k := 0; g.marks() < 3 && k < 1000; k++ {
			g.Step(0)
		}
		g.steps(0, 4)
		same(t, g.what+": what lies there", len(g.deque(0).Items()), 2)
		g.steps(1, ahead)
		for k := 0; sum(g.Seen()) < 3 && k < 1000; k++ {
			left := len(g.deque(0).Items())
			g.Step(1 + k%2)
			same(t, g.what+": nobody offers", left > 0 && g.idle() > 0, false)
		}
		same(t, g.what+": seen", sum(g.Seen()), 3)
		if slices.Equal(g.Seen(), []int{1, 1, 1}) {
			late++
		}
		g.end()
	}
	same(t, "some had one each", late > 0, true)
}

// P11.2: who steals an object pushes what it reaches from there to its own
// deque.
func TestStolenGoesOn(t *testing.T) {
	heap, at := heapOf(t, [2]int{arrayOfRefs, 2}, [2]int{arrayOfRefs, 3}, [2]int{bare, 0}, [2]int{bare, 0}, [2]int{bare, 0}, [2]int{bare, 0})
	heap.Put(int(at[0])+1, at[1], at[2])
	heap.Put(int(at[1])+1, at[3:6]...)
	g := made(t, "stolen", heap, 2, 4, 0)
	g.Root(at[0])
	for k := 0; g.marks() < 3 && k < 1000; k++ {
		g.Step(0)
	}
	g.steps(0, 4)
	sameList(t, "what lies in the first one's", g.deque(0).Items(), at[1:3])
	for k := 0; g.marks() < 6 && k < 1000; k++ {
		g.Step(1)
	}
	g.steps(1, 4)
	sameList(t, "the first one's", g.deque(0).Items(), at[2:3])
	sameList(t, "the second one's", g.deque(1).Items(), at[3:6])
	g.end()
	same(t, "seen", sum(g.Seen()), 6)
}

// P11.2: who has nothing offers to end, as control's first cell counts; as long
// as some one has anything it goes on, and comes back to work.
func TestOffers(t *testing.T) {
	g := made(t, "offers", fan(t, 3), 3, 2, 2)
	g.Root(1)
	for range 500 {
		same(t, "while another one has refs in its hands", g.Step(1), api.Go)
	}
	same(t, "one offers", g.idle(), 1)
	for range 500 {
		same(t, "so does the next one", g.Step(2), api.Go)
	}
	same(t, "two offer", g.idle(), 2)
	for k := 0; g.marks() < 4 && k < 1000; k++ {
		g.Step(0)
	}
	g.steps(0, 8)
	for range 500 {
		same(t, "there is something", g.Step(1), api.Go)
	}
	sameList(t, "it has come back to work", g.Seen(), []int{1, 3, 0})
	same(t, "two offer again", g.idle(), 2)
	for k := 0; g.Step(0) == api.Go && k < 1000; k++ {
	}
	same(t, "all offer", g.idle(), 3)
	same(t, "one has ended", g.Done(), false)
	g.end()
	sameList(t, "nothing more is seen", g.Seen(), []int{1, 3, 0})
}

// P11.2, P11.3: marking reads the heap alone, and bits and deques are shared
// with who made the marker.
func TestHeapStays(t *testing.T) {
	heap := fan(t, 30)
	words := heap.Words(0, heap.Len())
	g := made(t, "the heap", heap, 3, 1, 2)
	g.Root(1, 5, -3)
	for n := 0; !g.Done() && n < g.most(); n++ {
		g.Step(n % 3)
		sameList(t, "the heap's words", heap.Words(0, heap.Len()), words)
	}
	same(t, "reads", heap.Steps() > 0, true)
}

// P11.2: classes that may not be, and none at all: every ref is a fault.
func TestWithoutClasses(t *testing.T) {
	for name, l := range map[string][]api.Class{"nil": nil, "none": {}, "may not be": {{Refs: -1}, {Array: 3}, {Refs: 65}, {Array: 1, Words: 1}, {Words: -1}}} {
		heap, b := fan(t, 3), bits.New(fan(t, 3).Len())
		m, errno := mark.New(heap, l, b, cells.New(mark.Need(2, 1, 1)), 2, 1, 1)
		same(t, name+": New", errno, api.OK)
		m.Root(1, 5, 6)
		for n := 0; !m.Done() && n < 10000; n++ {
			m.Step(n % 2)
		}
		same(t, name+": Done", m.Done(), true)
		same(t, name+": Fault", m.Fault(), api.ErrHeap)
		same(t, name+": marks", b.Count(0, heap.Len()), 0)
	}
}
