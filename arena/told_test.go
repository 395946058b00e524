package arena_test

import (
	"fmt"
	"testing"

	"ballast/api"
	"ballast/arena"
	"ballast/blocks"
	"ballast/cells"
	"ballast/classes"
)

// P8.3: what is left becomes a filler, by one access, and the buffer is
// empty; twice is once.
func TestRetire(t *testing.T) {
	for _, x := range []arena.Buffer{span(10, 20), span(10, 12), span(10, 11), span(end-1, end), span(0, 2), span(3, whole)} {
		c := cells.New(whole)
		words := make([]int64, whole)
		for i := range words {
			words[i] = int64(100 + i)
		}
		c.Put(0, words...)
		a := made(t, c, top, end, 8)
		b := x
		same(t, fmt.Sprint(x, ": Retire"), a.Retire(&b), true)
		same(t, fmt.Sprint(x, ": accesses"), c.Steps(), 1)
		same(t, fmt.Sprint(x, ": the buffer"), b, arena.Buffer{})
		words[x.From] = classes.Header(0, x.To-x.From-1)
		sameList(t, fmt.Sprint(x, ": cells"), c.Words(0, whole), words)
		got, errno := blocks.Read(c, nil, x.From)
		same(t, fmt.Sprint(x, ": a filler"), got, api.Block{At: x.From, Class: 0, Len: x.To - x.From - 1, Size: x.To - x.From})
		same(t, fmt.Sprint(x, ": a filler"), errno, api.OK)

		same(t, fmt.Sprint(x, ": Retire again"), a.Retire(&b), false)
		same(t, fmt.Sprint(x, ": accesses"), c.Steps(), 1)
		same(t, fmt.Sprint(x, ": the buffer"), b, arena.Buffer{})
		sameList(t, fmt.Sprint(x, ": cells"), c.Words(0, whole), words)
	}
}

// P8.3: a buffer that has none left is not touched, nor is any cell.
func TestRetireOfEmpty(t *testing.T) {
	c := cells.New(whole)
	c.Put(top, 5)
	words := c.Words(0, whole)
	a := made(t, c, top, end, 8)
	for _, x := range []arena.Buffer{{}, span(1, 1), span(12, 12), span(end, end), span(12, 11), span(12, 0), span(0, -1), span(-5, -5)} {
		b := x
		same(t, fmt.Sprint(x, ": Retire"), a.Retire(&b), false)
		same(t, fmt.Sprint(x, ": the buffer"), b, x)
	}
	same(t, "Retire of no buffer", a.Retire(nil), false)
	same(t, "accesses", c.Steps(), 0)
	sameList(t, "cells", c.Words(0, whole), words)
}

// P8.3: a buffer that was retired is as good as a new one; its next ask takes
// none of its old words.
func TestAskBehindRetire(t *testing.T) {
	c := cells.New(whole)
	c.Put(top, 5)
	a := made(t, c, top, end, 8)
	b := arena.Buffer{}
	goOn(a.Ask(&b, 3))
	same(t, "Retire", a.Retire(&b), true)
	got, steps := goOn(a.Ask(&b, 3))
	same(t, "At", got, told{13, api.OK})
	same(t, "steps", steps, 2)
	same(t, "the buffer", b, span(16, 21))
}

// P8.3: one that was used up by asks has nothing to retire.
func TestRetireOfUsedUp(t *testing.T) {
	c := cells.New(whole)
	c.Put(top, 5)
	a := made(t, c, top, end, 8)
	b := arena.Buffer{}
	goOn(a.Ask(&b, 4))
	goOn(a.Ask(&b, 4))
	accesses := c.Steps()
	same(t, "Retire", a.Retire(&b), false)
	same(t, "accesses", c.Steps(), accesses)
	sameList(t, "cells", c.Words(top+1, whole), make([]int64, whole-top-1))
}

// P8.3, P1: a buffer of any numbers: it is empty behind it, and no cell but
// its first one is touched.
func TestRetireOfAnyNumbers(t *testing.T) {
	numbers := append(far(), 0, 1, 12, end, whole)
	for _, from := range numbers {
		for _, to := range numbers {
			c := cells.New(whole)
			b := span(from, to)
			what := fmt.Sprintf("%d to %d", from, to)
			same(t, what+": Retire", made(t, c, top, end, 8).Retire(&b), from < to)
			if from >= to {
				same(t, what+": the buffer", b, span(from, to))
				continue
			}
			same(t, what+": the buffer", b, arena.Buffer{})
			words := make([]int64, whole)
			if from >= 0 && from < whole {
				words[from] = classes.Header(0, to-from-1)
			}
			sameList(t, what+": cells", c.Words(0, whole), words)
		}
	}
}

// The chapter's examples: the top is 1, the end 21, the buffer 8.
func TestExamples(t *testing.T) {
	c := cells.New(21)
	c.Put(0, 1)
	a := made(t, c, 0, 21, 8)
	b, o := arena.Buffer{}, arena.Buffer{}
	for i, want := range []int{1, 4, 9} {
		got, _ := goOn(a.Ask(&b, 3))
		same(t, fmt.Sprint("ask ", i), got, told{want, api.OK})
	}
	got, errno := blocks.Read(c, nil, 7)
	same(t, "7 and 8", got, api.Block{At: 7, Class: 0, Len: 1, Size: 2})
	same(t, "7 and 8", errno, api.OK)
	same(t, "Left", a.Left(), 4)
	full, _ := goOn(a.Ask(&o, 5))
	same(t, "5 by another buffer", full, told{0, api.ErrFull})
	last, _ := goOn(a.Ask(&o, 3))
	same(t, "3 by it", last, told{17, api.OK})
	same(t, "Left", a.Left(), 0)
}
