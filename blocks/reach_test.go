package blocks_test

import (
	"fmt"
	"math"
	"slices"
	"testing"

	"ballast/api"
	"ballast/blocks"
	"ballast/cells"
)

// heap is memory and classes, and from where to where the heap goes.
type heap struct {
	c        *cells.Cells
	l        []api.Class
	from, to int
}

// reaches holds Reach against the addresses that are wanted.
func (h heap) reaches(t *testing.T, roots []int64, want ...int) {
	t.Helper()
	told, errno := blocks.Reach(h.c, h.l, h.from, h.to, roots...)
	same(t, fmt.Sprint("Reach from ", roots), errno, api.OK)
	sameList(t, fmt.Sprint("Reach from ", roots), told, want...)
}

// fails holds Reach against an error.
func (h heap) fails(t *testing.T, want api.Errno, roots ...int64) {
	t.Helper()
	told, errno := blocks.Reach(h.c, h.l, h.from, h.to, roots...)
	same(t, fmt.Sprint("Reach from ", roots), errno, want)
	sameList(t, fmt.Sprint("Reach from ", roots), told)
}

func from(roots ...int64) []int64 { return roots }

// ofExample is the heap of the chapter's second example: 1 refers to 5.
func ofExample() heap {
	c := example()
	c.Put(2, 5)
	return heap{c, some(), 1, 11}
}

// P4.3: the example's, with no roots, nothing, and the same root twice.
func TestReachOfTheExample(t *testing.T) {
	h := ofExample()
	h.reaches(t, from(1), 1, 5)
	h.reaches(t, from(0, 5), 5)
	h.fails(t, api.ErrHeap, 8)
	h.reaches(t, nil)
	h.reaches(t, from())
	h.reaches(t, from(0))
	h.reaches(t, from(0, 0, 0))
	h.reaches(t, from(5, 5), 5)
	h.reaches(t, from(1, 1, 0, 1), 1, 5)
	h.reaches(t, from(5, 1), 1, 5)
	h.reaches(t, from(1, 5), 1, 5)
}

// P4.3: a root that is no object's address of that walk, wherever it stands
// among others that are.
func TestReachFromRootsThatLeadNowhere(t *testing.T) {
	h := ofExample()
	for _, bad := range []int64{2, 3, 4, 6, 7, 8, 9, 10, 11, 12, -1, -5, 65536, 1 << 32, 1<<32 + 1, 1<<32 + 5, -1<<32 + 1, math.MinInt64, math.MinInt64 + 1, math.MaxInt64, header(1, 0)} {
		h.fails(t, api.ErrHeap, bad)
		h.fails(t, api.ErrHeap, bad, 1)
		h.fails(t, api.ErrHeap, 1, bad)
		h.fails(t, api.ErrHeap, 1, 0, bad, 5)
	}
}

// P4.3: what Walk says comes first.
func TestReachOfNoHeap(t *testing.T) {
	h := ofExample()
	for _, k := range []struct {
		from, to int
		want     api.Errno
	}{
		{-1, 11, api.ErrAddr}, {1, 12, api.ErrAddr}, {5, 1, api.ErrAddr}, {math.MinInt, math.MaxInt, api.ErrAddr}, {math.MaxInt, math.MinInt, api.ErrAddr},
		{0, 11, api.ErrHeap}, {1, 10, api.ErrHeap}, {2, 11, api.ErrHeap}, {1, 4, api.ErrHeap},
	} {
		g := heap{h.c, h.l, k.from, k.to}
		g.fails(t, k.want)
		g.fails(t, k.want, 1)
		g.fails(t, k.want, -1)
		g.fails(t, k.want, 0)
	}
	heap{h.c, h.l[:2], 1, 11}.fails(t, api.ErrHeap)
}

// P4.3: of a heap without words nothing but nothing may be a root.
func TestReachOfNothing(t *testing.T) {
	memories := noMemories()
	memories["used"] = used(4)
	for _, c := range memories {
		h := heap{c: c, l: some()}
		h.reaches(t, nil)
		h.reaches(t, from(0, 0))
		h.fails(t, api.ErrHeap, 1)
		h.fails(t, api.ErrHeap, 0, -1)
	}
	for _, c := range noMemories() {
		heap{c, some(), 0, 1}.fails(t, api.ErrAddr, 1)
		heap{c, some(), -1, 0}.fails(t, api.ErrAddr, 1)
		heap{c, some(), 1, 1}.fails(t, api.ErrAddr)
	}
}

// pairs is a heap of so many objects of two references and a word, one behind
// the other from 1 on: the k-th (from 0 on) stands at pairAt(k).
func pairs(many int) heap {
	c := cells.New(1 + 4*many)
	for k := range many {
		blocks.Lay(c, some(), pairAt(k), 1, 0)
	}
	return heap{c, some(), 1, 1 + 4*many}
}

func pairAt(k int) int { return 1 + 4*k }

// refer has the k-th pair refer to two others.
func (h heap) refer(k int, first, second int64) { h.c.Put(pairAt(k)+1, first, second) }

// P4.3: rings of one, two and three objects, by either reference.
func TestReachOfRings(t *testing.T) {
	h := pairs(7)
	h.refer(0, 1, 1)
	h.refer(1, 9, 0)
	h.refer(2, 0, 5)
	h.refer(3, 21, 0)
	h.refer(5, 17, 13)
	h.refer(4, 0, 13)
	h.reaches(t, from(1), 1)
	h.reaches(t, from(5), 5, 9)
	h.reaches(t, from(9), 5, 9)
	h.reaches(t, from(13), 13, 17, 21)
	h.reaches(t, from(17), 13, 17, 21)
	h.reaches(t, from(21), 13, 17, 21)
	h.reaches(t, from(21, 1), 1, 13, 17, 21)
	h.reaches(t, from(25), 25)
	h.reaches(t, from(25, 21, 9, 1), 1, 5, 9, 13, 17, 21, 25)
}

// P4.3: all references of an object are followed, those of an array too; words
// that are none, though they are addresses of objects, are not.
func TestReachFollowsReferencesAlone(t *testing.T) {
	c := cells.New(40)
	l := append(some(), api.Class{Refs: 3, Words: 2}, api.Class{})
	at := 1
	for _, k := range [][2]int{{4, 0}, {2, 4}, {3, 2}, {5, 0}, {0, 1}, {5, 0}, {5, 0}, {2, 0}, {5, 0}} {
		size, _ := blocks.Lay(c, l, at, k[0], k[1])
		at += size
	}
	h := heap{c, l, 1, at}
	c.Put(2, 7, 0, 18, 15, 15) // the object at 1: its references lead to 7 and 18
	c.Put(8, 12, 0, 15, 7)     // the array of references at 7
	c.Put(13, 19, 1)           // the array of words at 12
	c.Put(17, 19)              // the filler at 16
	h.reaches(t, from(1), 1, 7, 12, 15, 18)
	h.reaches(t, from(7), 7, 12, 15)
	h.reaches(t, from(12), 12)
	h.reaches(t, from(20, 21), 20, 21)
	c.Put(5, -1, 2)
	c.Put(13, math.MinInt64, 16)
	c.Put(17, -1)
	h.reaches(t, from(1), 1, 7, 12, 15, 18)
}

// P4.3: a reference of an object that is reached leads nowhere: to a filler,
// into an object, to the heap's end, below 0, beyond the heap.
func TestReachOfReferencesThatLeadNowhere(t *testing.T) {
	for _, bad := range []int64{2, 4, 6, 13, 14, 18, 21, 22, -1, -4, math.MinInt64, math.MaxInt64, 1 << 32, 1<<32 + 1, 65536, header(1, 0)} {
		h := pairs(5)
		blocks.Fill(h.c, 13, 17)
		h.refer(0, 5, 0)
		h.refer(1, 0, 9)
		for _, k := range [][2]int64{{bad, 0}, {0, bad}, {1, bad}, {bad, 1}} {
			h.refer(2, k[0], k[1])
			h.fails(t, api.ErrHeap, 9)
			h.fails(t, api.ErrHeap, 5)
			h.fails(t, api.ErrHeap, 1)
			h.fails(t, api.ErrHeap, 17, 1)
			h.reaches(t, from(17), 17)
			h.reaches(t, from(0))
			h.reaches(t, nil)
		}
	}
}

// P4.3: objects of the memory that the walk doesn't go over are none.
func TestReachOfAPartOfTheMemory(t *testing.T) {
	h := pairs(4)
	h.refer(1, 9, 0)
	h.from, h.to = 5, 13
	h.reaches(t, from(5), 5, 9)
	h.fails(t, api.ErrHeap, 1)
	h.fails(t, api.ErrHeap, 13)
	for _, outside := range []int64{1, 13} {
		h.refer(2, 0, outside)
		h.fails(t, api.ErrHeap, 5)
		h.fails(t, api.ErrHeap, 9)
	}
}

// P4.3, Words: an object at address 0 is referred to by nobody.
func TestReachOfAnObjectAtAddress0(t *testing.T) {
	c := cells.New(8)
	blocks.Lay(c, some(), 0, 1, 0)
	blocks.Lay(c, some(), 4, 1, 0)
	h := heap{c, some(), 0, 8}
	c.Put(1, 4, -1)
	c.Put(5, 0, 4)
	h.reaches(t, from(0))
	h.reaches(t, from(4), 4)
	h.reaches(t, from(0, 4, 0), 4)
	blocks.Fill(c, 0, 4)
	h.reaches(t, from(0, 4), 4)
}

// P4.3: a chain as long as a heap has room for, and an array that refers to
// much; whatever their order in the heap, addresses rise.
func TestReachOfLongChains(t *testing.T) {
	many := (api.MaxWords - 1) / 4
	up, down := pairs(many), pairs(many)
	var want []int
	for k := range many {
		want = append(want, pairAt(k))
		if k > 0 {
			up.refer(k-1, int64(pairAt(k)), 1)
			down.refer(k, 0, int64(pairAt(k-1)))
		}
	}
	last := int64(pairAt(many - 1))
	up.reaches(t, from(1), want...)
	up.reaches(t, from(last), int(last))
	down.reaches(t, from(last), want...)
	down.reaches(t, from(1), 1)
	down.refer(0, 2, 0)
	down.fails(t, api.ErrHeap, last)

	c := cells.New(1 + 1025 + 1024)
	blocks.Lay(c, some(), 1, 2, 1024)
	objects := []int{1}
	for k := range 1024 {
		blocks.Lay(c, some(), 1026+k, 3, 0)
		c.Put(1025-k, int64(1026+k))
		objects = append(objects, 1026+k)
	}
	heap{c, some(), 1, 2050}.reaches(t, from(1), objects...)
}

// R5: many roots are no more than few.
func TestReachFromManyRoots(t *testing.T) {
	h := ofExample()
	roots := slices.Repeat(from(5, 0, 1), 100000)
	told, errno := blocks.Reach(h.c, h.l, h.from, h.to, roots...)
	same(t, "Reach", errno, api.OK)
	sameList(t, "Reach", told, 1, 5)
	_, errno = blocks.Reach(h.c, h.l, h.from, h.to, append(roots, 2)...)
	same(t, "Reach with a last one that leads nowhere", errno, api.ErrHeap)
}
