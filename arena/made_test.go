package arena_test

import (
	"fmt"
	"math"
	"slices"
	"testing"

	"ballast/api"
	"ballast/arena"
	"ballast/cells"
)

func same[T comparable](t *testing.T, what string, got, want T) {
	t.Helper()
	if got != want {
		t.Errorf("%s: %v, want %v", what, got, want)
	}
}

func sameList[T comparable](t *testing.T, what string, got, want []T) {
	t.Helper()
	if !slices.Equal(got, want) {
		t.Errorf("%s: %v, want %v", what, got, want)
	}
}

// made is an arena of that memory.
func made(t *testing.T, c *cells.Cells, top, to, buffer int) *arena.Arena {
	t.Helper()
	a, errno := arena.New(c, top, to, buffer)
	if a == nil || errno != api.OK {
		t.Fatalf("New(%d, %d, %d): %v, %v", top, to, buffer, a, errno)
	}
	return a
}

// told is what At tells.
type told struct {
	at    int
	errno api.Errno
}

func value(k *arena.Ask) told {
	at, errno := k.At()
	return told{at, errno}
}

// goOn has the ask step till it is done: what it tells then, and how many
// steps that took.
func goOn(k *arena.Ask) (told, int) {
	steps := 1
	for !k.Step() && steps < 10000 {
		steps++
	}
	return value(k), steps
}

func far() []int {
	return []int{math.MinInt, math.MinInt + 1, -1 << 40, -65537, -64, -1, 65537, 1 << 40, math.MaxInt - 1, math.MaxInt}
}

// P8.1: the top's cell must be there.
func TestNewOfTops(t *testing.T) {
	for _, x := range []struct {
		words, top int
		want       api.Errno
	}{
		{30, 0, api.OK}, {30, 17, api.OK}, {30, 29, api.OK}, {30, 30, api.ErrArg}, {30, 31, api.ErrArg}, {30, -1, api.ErrArg},
		{1, 0, api.OK}, {1, 1, api.ErrArg}, {1, -1, api.ErrArg}, {0, 0, api.ErrArg}, {0, -1, api.ErrArg},
		{api.MaxWords, api.MaxWords - 1, api.OK}, {api.MaxWords, api.MaxWords, api.ErrArg},
	} {
		a, errno := arena.New(cells.New(x.words), x.top, 0, 8)
		same(t, fmt.Sprint(x), errno, x.want)
		same(t, fmt.Sprint(x, " is made"), a != nil, x.want == api.OK)
	}
}

// P8.1: the end is from 0 to as many cells as there are.
func TestNewOfEnds(t *testing.T) {
	for _, x := range []struct {
		words, to int
		want      api.Errno
	}{
		{30, 0, api.OK}, {30, 1, api.OK}, {30, 29, api.OK}, {30, 30, api.OK}, {30, 31, api.ErrArg}, {30, -1, api.ErrArg},
		{1, 0, api.OK}, {1, 1, api.OK}, {1, 2, api.ErrArg}, {1, -1, api.ErrArg},
		{api.MaxWords, api.MaxWords, api.OK}, {api.MaxWords, api.MaxWords + 1, api.ErrArg},
	} {
		a, errno := arena.New(cells.New(x.words), 0, x.to, 8)
		same(t, fmt.Sprint(x), errno, x.want)
		same(t, fmt.Sprint(x, " is made"), a != nil, x.want == api.OK)
	}
}

// P8.1: buffers are from 2 to 4096, also where that is more than the heap.
func TestNewOfBuffers(t *testing.T) {
	c := cells.New(5)
	for buffer, want := range map[int]api.Errno{
		-2: api.ErrArg, -1: api.ErrArg, 0: api.ErrArg, 1: api.ErrArg, 2: api.OK, 3: api.OK, 5: api.OK, 6: api.OK, 1000: api.OK,
		4095: api.OK, 4096: api.OK, 4097: api.ErrArg, 8192: api.ErrArg,
	} {
		a, errno := arena.New(c, 4, 5, buffer)
		same(t, fmt.Sprint("a buffer of ", buffer), errno, want)
		same(t, fmt.Sprint("a buffer of ", buffer, ": is made"), a != nil, want == api.OK)
	}
}

// P8.1, P1: numbers that are far from all that may be; no memory.
func TestNewFar(t *testing.T) {
	memories := map[string]*cells.Cells{"nil": nil, "zero": {}, "none": cells.New(0), "some": cells.New(30), "most": cells.New(api.MaxWords)}
	for name, c := range memories {
		for _, n := range far() {
			for _, x := range [][3]int{{n, 0, 2}, {0, n, 2}, {0, 0, n}, {n, n, 2}, {0, n, n}, {n, n, n}} {
				a, errno := arena.New(c, x[0], x[1], x[2])
				if a != nil || errno != api.ErrArg {
					t.Errorf("New(%s, %v): %v, %v", name, x, a, errno)
				}
			}
		}
	}
	for _, name := range []string{"nil", "zero", "none"} {
		a, errno := arena.New(memories[name], 0, 0, 2)
		same(t, name+": New", errno, api.ErrArg)
		same(t, name+": is none", a == nil, true)
	}
}

// P8.1: New writes nothing, and has no access; the cell's word is the top.
func TestNewWritesNothing(t *testing.T) {
	c := cells.New(6)
	words := []int64{90, 91, 4, 92, 93, 94}
	c.Put(0, words...)
	a := made(t, c, 2, 6, 2)
	same(t, "Left", a.Left(), 2)
	arena.New(c, 2, 7, 2)
	arena.New(c, 6, 6, 2)
	arena.New(c, 2, 6, 1)
	sameList(t, "cells", c.Words(0, 6), words)
	same(t, "accesses", c.Steps(), 0)
}

// P8.1: Left is what lies between the top and the end, without an access;
// nothing, where the top is no place of the heap.
func TestLeft(t *testing.T) {
	c := cells.New(40)
	a := made(t, c, 2, 37, 8)
	for top, want := range map[int64]int{
		0: 37, 1: 36, 5: 32, 36: 1, 37: 0, 38: 0, 39: 0, 40: 0, 41: 0, 1000: 0, -1: 0, -2: 0, -37: 0,
		math.MinInt64: 0, math.MinInt64 + 1: 0, math.MaxInt64: 0, math.MaxInt64 - 1: 0, 1 << 32: 0, 1<<32 + 5: 0, -1 << 32: 0,
	} {
		c.Put(1, 77, top, 78)
		same(t, fmt.Sprint("Left at ", top), a.Left(), want)
		sameList(t, "cells", c.Words(1, 4), []int64{77, top, 78})
	}
	same(t, "accesses", c.Steps(), 0)
}

// P8.1: an end of 0, of one word, and as far as it may be.
func TestLeftOfEnds(t *testing.T) {
	c := cells.New(api.MaxWords)
	for _, to := range []int{0, 1, 2, 100, api.MaxWords - 1, api.MaxWords} {
		a := made(t, c, 7, to, 2)
		for top, want := range map[int]int{0: to, to: 0, to + 1: 0, -1: 0, to - 1: min(to, 1)} {
			c.Put(7, int64(top))
			same(t, fmt.Sprintf("Left from %d to %d", top, to), a.Left(), want)
		}
	}
}

// P8.1: an ask is made without an access, and nothing is done yet, whatever
// it will come to.
func TestAskDoesNothingYet(t *testing.T) {
	c := cells.New(30)
	c.Put(0, 5)
	a := made(t, c, 0, 30, 8)
	words := c.Words(0, 30)
	for _, size := range []int{math.MinInt, -1, 0, 1, 3, 4, 5, 20, 65536, 65537, math.MaxInt} {
		for _, from := range []arena.Buffer{{}, {From: 6, To: 8}, {From: 6, To: 20}, {From: 9, To: 9}} {
			b := from
			k := a.Ask(&b, size)
			same(t, "an ask", k != nil, true)
			same(t, "Done", k.Done(), false)
			same(t, "At", value(k), told{0, api.ErrState})
			same(t, "the buffer", b, from)
		}
	}
	same(t, "accesses", c.Steps(), 0)
	sameList(t, "cells", c.Words(0, 30), words)
}

// R3: the memory is the arena's own part: two of one top share their words.
func TestMemoryIsShared(t *testing.T) {
	c := cells.New(40)
	c.Put(2, 5)
	a, o := made(t, c, 2, 37, 8), made(t, c, 2, 30, 6)
	x, _ := goOn(a.Ask(&arena.Buffer{}, 3))
	y, _ := goOn(o.Ask(&arena.Buffer{}, 3))
	z, _ := goOn(a.Ask(&arena.Buffer{}, 3))
	same(t, "the first one", x, told{5, api.OK})
	same(t, "the other one", y, told{13, api.OK})
	same(t, "the first one again", z, told{19, api.OK})
	same(t, "Left", a.Left(), 10)
	same(t, "Left of the other", o.Left(), 3)
}

// R3: an arena has its memory's methods, and they are of that memory.
func TestMethodsOfItsMemory(t *testing.T) {
	c := cells.New(40)
	a := made(t, c, 2, 37, 8)
	a.Put(2, 30)
	same(t, "Left", a.Left(), 7)
	same(t, "Store", a.Store(9, 4), api.OK)
	w, errno := c.Load(9)
	same(t, "Load", w, 4)
	same(t, "Load", errno, api.OK)
	same(t, "Len", a.Len(), 40)
	same(t, "Steps", a.Steps(), 2)
}

// P8.1: arenas side by side leave each other alone.
func TestSideBySide(t *testing.T) {
	c := cells.New(40)
	c.Put(0, 2, 20)
	a, o := made(t, c, 0, 20, 8), made(t, c, 1, 40, 4)
	x, _ := goOn(a.Ask(&arena.Buffer{}, 2))
	y, _ := goOn(o.Ask(&arena.Buffer{}, 2))
	same(t, "one", x, told{2, api.OK})
	same(t, "the other", y, told{20, api.OK})
	sameList(t, "tops", c.Words(0, 2), []int64{10, 24})
	sameList(t, "all else", c.Words(2, 40), make([]int64, 38))
}

// A nil arena, and a zero one, which is none too: nil asks, false, 0.
func TestNoArena(t *testing.T) {
	c := cells.New(40)
	c.Put(0, 5)
	for name, a := range map[string]*arena.Arena{"nil": nil, "zero": {}, "without all but memory": {Cells: c}} {
		same(t, name+": Left", a.Left(), 0)
		for _, from := range []arena.Buffer{{}, {From: 6, To: 9}} {
			b := from
			for _, k := range []*arena.Ask{a.Ask(&b, 3), a.Ask(&b, 0), a.Ask(nil, 3), a.Ask(&b, 65537)} {
				same(t, name+": ask", k == nil, true)
				same(t, name+": Done", k.Done(), true)
				same(t, name+": Step", k.Step(), true)
				same(t, name+": At", value(k), told{0, api.ErrArg})
			}
			same(t, name+": Retire", a.Retire(&b), false)
			same(t, name+": the buffer", b, from)
		}
		same(t, name+": Retire of none", a.Retire(nil), false)
	}
	same(t, "accesses", c.Steps(), 0)
	sameList(t, "cells", c.Words(1, 40), make([]int64, 39))
}

// A nil ask, and a zero one: done, ErrArg.
func TestNoAsk(t *testing.T) {
	for name, k := range map[string]*arena.Ask{"nil": nil, "zero": {}} {
		for range 3 {
			same(t, name+": Done", k.Done(), true)
			same(t, name+": At", value(k), told{0, api.ErrArg})
			same(t, name+": Step", k.Step(), true)
		}
	}
}
