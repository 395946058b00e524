package cells_test

import (
	"math"
	"slices"
	"testing"

	"ballast/api"
	"ballast/cells"
)

// told holds what an access told, whichever it was.
type told struct {
	word  int64
	done  bool
	errno api.Errno
}

func load(c *cells.Cells, at int) told {
	v, errno := c.Load(at)
	return told{word: v, errno: errno}
}

func store(c *cells.Cells, at int, v int64) told {
	return told{errno: c.Store(at, v)}
}

func swap(c *cells.Cells, at int, old, new int64) told {
	done, errno := c.Swap(at, old, new)
	return told{done: done, errno: errno}
}

func add(c *cells.Cells, at int, by int64) told {
	v, errno := c.Add(at, by)
	return told{word: v, errno: errno}
}

func same[T comparable](t *testing.T, what string, got, want T) {
	t.Helper()
	if got != want {
		t.Errorf("%s: %v, want %v", what, got, want)
	}
}

func sameWords(t *testing.T, what string, got []int64, want ...int64) {
	t.Helper()
	if !slices.Equal(got, want) {
		t.Errorf("%s: %v, want %v", what, got, want)
	}
}

// P1.1: the chapter's first example.
func TestAccessesOfTheExample(t *testing.T) {
	c := cells.New(3)
	same(t, "Store(1, 5)", store(c, 1, 5), told{})
	same(t, "Swap(1, 5, 7)", swap(c, 1, 5, 7), told{done: true})
	same(t, "Swap(1, 5, 8)", swap(c, 1, 5, 8), told{})
	same(t, "Add(1, -2)", add(c, 1, -2), told{word: 7})
	same(t, "Load(1)", load(c, 1), told{word: 5})
	same(t, "Steps", c.Steps(), 5)
	sameWords(t, "Words(0, 9)", c.Words(0, 9), 0, 5, 0)
}

// P1.1: how many cells New has, and that all are 0.
func TestNewIsKept(t *testing.T) {
	for _, k := range []struct{ words, want int }{
		{math.MinInt, 0}, {-1, 0}, {0, 0}, {1, 1}, {3, 3},
		{api.MaxWords - 1, 65535}, {api.MaxWords, 65536},
		{api.MaxWords + 1, 65536}, {math.MaxInt, 65536},
	} {
		c := cells.New(k.words)
		if c == nil {
			t.Fatalf("New(%d): nil", k.words)
		}
		same(t, "Len", c.Len(), k.want)
		same(t, "Steps", c.Steps(), 0)
		sameWords(t, "Words", c.Words(0, k.want), make([]int64, k.want)...)
		same(t, "Load behind the last", load(c, k.want), told{errno: api.ErrAddr})
		if k.want > 0 {
			same(t, "Load of the last", load(c, k.want-1), told{})
		}
	}
}

// P1.1: the first cell and the last one are cells like any other.
func TestEdgeCells(t *testing.T) {
	for _, at := range []int{0, 3} {
		c := cells.New(4)
		same(t, "Store", store(c, at, -9), told{})
		same(t, "Load", load(c, at), told{word: -9})
		same(t, "Swap", swap(c, at, -9, 4), told{done: true})
		same(t, "Add", add(c, at, 6), told{word: 4})
		same(t, "Load", load(c, at), told{word: 10})
		same(t, "Steps", c.Steps(), 5)
		want := make([]int64, 4)
		want[at] = 10
		sameWords(t, "all", c.Words(0, 4), want...)
	}
}

// P1.1, R2: where there is no cell, nothing is told, changed or counted.
func TestNoSuchCell(t *testing.T) {
	c := cells.New(3)
	c.Put(0, 1, 2, 3)
	none := told{errno: api.ErrAddr}
	for _, at := range []int{math.MinInt, -65536, -3, -1, 3, 4, 65535, 65536, math.MaxInt} {
		same(t, "Load", load(c, at), none)
		same(t, "Store", store(c, at, 9), none)
		same(t, "Swap", swap(c, at, 0, 9), none)
		same(t, "Swap to the same", swap(c, at, 3, 3), none)
		same(t, "Add", add(c, at, 9), none)
	}
	same(t, "Steps", c.Steps(), 0)
	sameWords(t, "all", c.Words(0, 3), 1, 2, 3)
}

// P1.1: a Swap that finds another word is an access that changes nothing.
func TestSwapFindsAnotherWord(t *testing.T) {
	c := cells.New(2)
	c.Put(0, 5, 5)
	same(t, "Swap", swap(c, 0, 6, 5), told{})
	same(t, "Swap", swap(c, 0, -5, 7), told{})
	same(t, "Steps", c.Steps(), 2)
	sameWords(t, "all", c.Words(0, 2), 5, 5)
	same(t, "Swap to itself", swap(c, 0, 5, 5), told{done: true})
	same(t, "Swap", swap(c, 1, 5, math.MinInt64), told{done: true})
	same(t, "Steps", c.Steps(), 4)
	sameWords(t, "all", c.Words(0, 2), 5, math.MinInt64)
}

// P1.1: Add goes round modulo 2^64, at both ends, and tells the word ahead.
func TestAddGoesRound(t *testing.T) {
	for _, k := range []struct{ word, by, want int64 }{
		{math.MaxInt64, 1, math.MinInt64},
		{math.MinInt64, -1, math.MaxInt64},
		{math.MinInt64, math.MinInt64, 0},
		{math.MaxInt64, math.MaxInt64, -2},
		{-1, math.MinInt64, math.MaxInt64},
		{7, 0, 7},
	} {
		c := cells.New(1)
		c.Put(0, k.word)
		same(t, "Add", add(c, 0, k.by), told{word: k.word})
		same(t, "Load", load(c, 0), told{word: k.want})
	}
}

// P1.1: Steps counts accesses, those too that change nothing, and no other call.
func TestStepsCountsAccessesAlone(t *testing.T) {
	c := cells.New(2)
	deeds := []func(){
		func() { c.Load(0) },
		func() { c.Store(0, 0) },
		func() { c.Swap(0, 0, 1) },
		func() { c.Swap(0, 0, 1) },
		func() { c.Add(0, 0) },
	}
	for i, do := range deeds {
		do()
		same(t, "Steps", c.Steps(), i+1)
	}
	beside := []func(){
		func() { c.Len() },
		func() { c.Steps() },
		func() { c.Words(0, 2) },
		func() { c.Put(0, 4, 5) },
		func() { c.Put(9) },
		func() { c.Load(2) },
		func() { c.Store(-1, 0) },
		func() { c.Swap(2, 0, 0) },
		func() { c.Add(2, 0) },
	}
	for i, do := range beside {
		do()
		if c.Steps() != len(deeds) {
			t.Errorf("call %d beside: Steps %d, want %d", i, c.Steps(), len(deeds))
		}
	}
}

// A nil memory: ErrAddr, 0, nothing.
func TestNilMemory(t *testing.T) {
	var c *cells.Cells
	none := told{errno: api.ErrAddr}
	for _, at := range []int{math.MinInt, -1, 0, 1, math.MaxInt} {
		same(t, "Load", load(c, at), none)
		same(t, "Store", store(c, at, 1), none)
		same(t, "Swap", swap(c, at, 0, 1), none)
		same(t, "Add", add(c, at, 1), none)
		same(t, "Put", c.Put(at, 1), api.ErrAddr)
		same(t, "Put of nothing", c.Put(at), api.ErrAddr)
		same(t, "Words", len(c.Words(at, math.MaxInt)), 0)
	}
	same(t, "Len", c.Len(), 0)
	same(t, "Steps", c.Steps(), 0)
}

// A zero memory is New(0).
func TestZeroMemory(t *testing.T) {
	for _, c := range []*cells.Cells{{}, new(cells.Cells), cells.New(0)} {
		same(t, "Load", load(c, 0), told{errno: api.ErrAddr})
		same(t, "Store", store(c, 0, 1), told{errno: api.ErrAddr})
		same(t, "Swap", swap(c, 0, 0, 1), told{errno: api.ErrAddr})
		same(t, "Add", add(c, 0, 1), told{errno: api.ErrAddr})
		same(t, "Put", c.Put(0, 1), api.ErrAddr)
		same(t, "Put of nothing", c.Put(0), api.OK)
		same(t, "Put of nothing behind the end", c.Put(1), api.ErrAddr)
		same(t, "Words", len(c.Words(-1, 1)), 0)
		same(t, "Len", c.Len(), 0)
		same(t, "Steps", c.Steps(), 0)
	}
}
