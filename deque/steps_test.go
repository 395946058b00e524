package deque_test

import (
	"fmt"
	"slices"
	"testing"

	"ballast/api"
	"ballast/cells"
	"ballast/deque"
)

// The cells of the deques of this file: two slots, a stack of two, some cells
// around them.
const (
	base   = 3
	top    = 0
	bottom = 1
	lock   = 2
	count  = 3
	slots  = 4
	stack  = 6
	behind = 8
)

// event is a step of the operation: one access of a cell of the deque's, and
// the word that is there behind it. Or it is what somebody else does.
type event struct {
	at     int
	writes bool
	word   int64
	other  bool
}

func reads(at int) event              { return event{at: at} }
func writes(at int, word int64) event { return event{at: at, writes: true, word: word} }
func other(at int, word int64) event  { return event{at: at, word: word, other: true} }

// hide has every cell but one be a word that would lead a step astray; it is
// what they were.
func hide(c *cells.Cells, but int) []int64 {
	words := c.Words(0, c.Len())
	for at := range words {
		if at != but {
			c.Put(at, 1000+int64(at)*7)
		}
	}
	return words
}

// sameStep does a step while all cells but one are hidden, so that a step
// that accessed another one would be seen.
func sameStep(t *testing.T, what string, c *cells.Cells, o *deque.Op, e event) {
	t.Helper()
	at := base + e.at
	words, steps := hide(c, at), c.Steps()
	hidden := c.Words(0, c.Len())
	o.Step()
	same(t, what+": accesses", c.Steps()-steps, 1)
	if e.writes {
		hidden[at], words[at] = e.word, e.word
	}
	sameList(t, what+": cells", c.Words(0, c.Len()), hidden)
	c.Put(0, words...)
}

// way is one way of an operation through its steps.
type way struct {
	name  string
	words []int64 // of the deque's cells
	begin func(d *deque.Deque) *deque.Op
	steps []event
	want  told
}

func push(v int64) func(d *deque.Deque) *deque.Op {
	return func(d *deque.Deque) *deque.Op { return d.Push(v) }
}

func pop(d *deque.Deque) *deque.Op   { return d.Pop() }
func steal(d *deque.Deque) *deque.Op { return d.Steal() }

func pushes() []way {
	return []way{
		{"Push into nothing", []int64{0, 0, 0, 0, 0, 0, 0, 0}, push(5),
			[]event{reads(bottom), reads(top), writes(slots, 5), writes(bottom, 1)}, told{5, api.OK}},
		{"Push into the last free slot", []int64{0, 1, 0, 0, 4, 0, 0, 0}, push(5),
			[]event{reads(bottom), reads(top), writes(slots+1, 5), writes(bottom, 2)}, told{5, api.OK}},
		{"Push round behind the last slot", []int64{5, 6, 0, 0, 0, 4, 0, 0}, push(-9),
			[]event{reads(bottom), reads(top), writes(slots, -9), writes(bottom, 7)}, told{-9, api.OK}},
		{"Push of 0, while the stack has items and is locked", []int64{0, 0, 1, 2, 0, 0, 7, 8}, push(0),
			[]event{reads(bottom), reads(top), writes(slots, 0), writes(bottom, 1)}, told{0, api.OK}},
		{"Push into the stack", []int64{0, 2, 0, 0, 3, 4, 0, 0}, push(5),
			[]event{reads(bottom), reads(top), writes(lock, 1), reads(count), writes(stack, 5), writes(count, 1), writes(lock, 0)}, told{5, api.OK}},
		{"Push into the last of the stack", []int64{7, 9, 0, 1, 3, 4, 6, 0}, push(5),
			[]event{reads(bottom), reads(top), writes(lock, 1), reads(count), writes(stack+1, 5), writes(count, 2), writes(lock, 0)}, told{5, api.OK}},
		{"Push where the stack is full", []int64{7, 9, 0, 2, 3, 4, 6, 7}, push(5),
			[]event{reads(bottom), reads(top), writes(lock, 1), reads(count), writes(lock, 0)}, told{0, api.ErrFull}},
		{"Push while others hold the lock", []int64{0, 2, 1, 1, 3, 4, 6, 0}, push(5),
			[]event{reads(bottom), reads(top), reads(lock), reads(lock), reads(lock), other(lock, 0), writes(lock, 1), reads(count), writes(stack+1, 5), writes(count, 2), writes(lock, 0)}, told{5, api.OK}},
		{"Push while others hold the lock, then it is full", []int64{0, 2, 1, 1, 3, 4, 6, 0}, push(5),
			[]event{reads(bottom), reads(top), reads(lock), other(count, 2), other(lock, 0), writes(lock, 1), reads(count), writes(lock, 0)}, told{0, api.ErrFull}},
		{"Push that sees room come too late", []int64{0, 2, 0, 0, 3, 4, 0, 0}, push(5),
			[]event{reads(bottom), reads(top), other(top, 1), writes(lock, 1), reads(count), writes(stack, 5), writes(count, 1), writes(lock, 0)}, told{5, api.OK}},
		{"Push that sees room come in time", []int64{0, 2, 0, 0, 3, 4, 0, 0}, push(5),
			[]event{reads(bottom), other(top, 1), reads(top), writes(slots, 5), writes(bottom, 3)}, told{5, api.OK}},
	}
}

func pops() []way {
	return []way{
		{"Pop of several", []int64{0, 2, 1, 1, 3, 4, 6, 0}, pop,
			[]event{reads(bottom), writes(bottom, 1), reads(top), reads(slots + 1)}, told{4, api.OK}},
		{"Pop of several, gone round", []int64{1, 3, 0, 0, 3, 4, 0, 0}, pop,
			[]event{reads(bottom), writes(bottom, 2), reads(top), reads(slots)}, told{3, api.OK}},
		{"Pop of one", []int64{0, 1, 1, 1, 3, 4, 6, 0}, pop,
			[]event{reads(bottom), writes(bottom, 0), reads(top), reads(slots), writes(top, 1), writes(bottom, 1)}, told{3, api.OK}},
		{"Pop of one, which is 0", []int64{5, 6, 0, 0, 3, 0, 0, 0}, pop,
			[]event{reads(bottom), writes(bottom, 5), reads(top), reads(slots + 1), writes(top, 6), writes(bottom, 6)}, told{0, api.OK}},
		{"Pop of one that is stolen, nothing else there", []int64{5, 6, 0, 0, 3, 4, 0, 0}, pop,
			[]event{reads(bottom), writes(bottom, 5), reads(top), reads(slots + 1), other(top, 6), reads(top), writes(bottom, 6), writes(lock, 1), reads(count), writes(lock, 0)}, told{0, api.ErrEmpty}},
		{"Pop of one that is stolen, others in the stack", []int64{5, 6, 0, 2, 3, 4, 7, 8}, pop,
			[]event{reads(bottom), writes(bottom, 5), reads(top), other(top, 6), reads(slots + 1), reads(top), writes(bottom, 6), writes(lock, 1), reads(count), reads(stack + 1), writes(count, 1), writes(lock, 0)}, told{8, api.OK}},
		{"Pop of one that is stolen ahead of reading", []int64{5, 6, 0, 1, 3, 4, 7, 8}, pop,
			[]event{reads(bottom), writes(bottom, 5), other(top, 6), reads(top), writes(bottom, 6), writes(lock, 1), reads(count), reads(stack), writes(count, 0), writes(lock, 0)}, told{7, api.OK}},
		{"Pop of nothing", []int64{4, 4, 0, 0, 3, 4, 5, 6}, pop,
			[]event{reads(bottom), writes(bottom, 3), reads(top), writes(bottom, 4), writes(lock, 1), reads(count), writes(lock, 0)}, told{0, api.ErrEmpty}},
		{"Pop of nothing, from the beginning on", []int64{0, 0, 0, 0, 0, 0, 0, 0}, pop,
			[]event{reads(bottom), writes(bottom, -1), reads(top), writes(bottom, 0), writes(lock, 1), reads(count), writes(lock, 0)}, told{0, api.ErrEmpty}},
		{"Pop by the stack", []int64{0, 0, 0, 2, 0, 0, 7, 8}, pop,
			[]event{reads(bottom), writes(bottom, -1), reads(top), writes(bottom, 0), writes(lock, 1), reads(count), reads(stack + 1), writes(count, 1), writes(lock, 0)}, told{8, api.OK}},
		{"Pop while others hold the lock", []int64{0, 0, 1, 1, 0, 0, 7, 8}, pop,
			[]event{reads(bottom), writes(bottom, -1), reads(top), writes(bottom, 0), reads(lock), reads(lock), other(lock, 0), writes(lock, 1), reads(count), reads(stack), writes(count, 0), writes(lock, 0)}, told{7, api.OK}},
		{"Pop while others take the last", []int64{0, 0, 1, 1, 0, 0, 7, 8}, pop,
			[]event{reads(bottom), writes(bottom, -1), reads(top), writes(bottom, 0), reads(lock), other(count, 0), other(lock, 0), writes(lock, 1), reads(count), writes(lock, 0)}, told{0, api.ErrEmpty}},
	}
}

func steals() []way {
	return []way{
		{"Steal of several", []int64{0, 2, 1, 1, 3, 4, 6, 0}, steal,
			[]event{reads(top), reads(bottom), reads(slots), writes(top, 1)}, told{3, api.OK}},
		{"Steal of one, gone round", []int64{3, 4, 0, 0, 3, 4, 0, 0}, steal,
			[]event{reads(top), reads(bottom), reads(slots + 1), writes(top, 4)}, told{4, api.OK}},
		{"Steal where somebody else is first", []int64{0, 2, 0, 1, 3, 4, 6, 0}, steal,
			[]event{reads(top), reads(bottom), reads(slots), other(top, 1), reads(top)}, told{0, api.ErrState}},
		{"Steal where somebody else is first, ahead of reading", []int64{0, 1, 0, 0, 3, 4, 6, 0}, steal,
			[]event{reads(top), other(top, 1), reads(bottom), reads(slots), reads(top)}, told{0, api.ErrState}},
		{"Steal of an item that is popped meanwhile", []int64{0, 1, 0, 0, 3, 4, 6, 0}, steal,
			[]event{reads(top), other(bottom, 0), reads(bottom), writes(lock, 1), reads(count), writes(lock, 0)}, told{0, api.ErrEmpty}},
		{"Steal of nothing", []int64{4, 4, 0, 0, 3, 4, 5, 6}, steal,
			[]event{reads(top), reads(bottom), writes(lock, 1), reads(count), writes(lock, 0)}, told{0, api.ErrEmpty}},
		{"Steal while the owner pops nothing", []int64{4, 3, 0, 0, 3, 4, 5, 6}, steal,
			[]event{reads(top), reads(bottom), writes(lock, 1), reads(count), writes(lock, 0)}, told{0, api.ErrEmpty}},
		{"Steal by the stack", []int64{2, 2, 0, 1, 3, 4, 5, 6}, steal,
			[]event{reads(top), reads(bottom), writes(lock, 1), reads(count), reads(stack), writes(count, 0), writes(lock, 0)}, told{5, api.OK}},
		{"Steal while others hold the lock", []int64{2, 2, 1, 2, 3, 4, 5, 6}, steal,
			[]event{reads(top), reads(bottom), reads(lock), reads(lock), other(lock, 0), writes(lock, 1), reads(count), reads(stack + 1), writes(count, 1), writes(lock, 0)}, told{6, api.OK}},
	}
}

// P6.2: each step is one access, of the cell that the promise names; each
// tells whether it is the last one; Value is ErrState ahead of the end.
func TestStepByStep(t *testing.T) {
	for _, w := range slices.Concat(pushes(), pops(), steals()) {
		c := cells.New(base + behind + 2)
		c.Put(0, 50, 51, 52)
		c.Put(base, w.words...)
		c.Put(base+behind, 53, 54)
		d, _ := deque.New(c, base, 2, 2)
		o := w.begin(d)
		same(t, w.name+": accesses at its beginning", c.Steps(), 0)
		for i, e := range w.steps {
			if e.other {
				c.Put(base+e.at, e.word)
				continue
			}
			what := fmt.Sprintf("%s, step %d", w.name, i)
			same(t, what+": done ahead of it", o.Done(), false)
			same(t, what+": Value ahead of it", value(o), told{0, api.ErrState})
			sameStep(t, what, c, o, e)
			same(t, what+": done behind it", o.Done(), i == len(w.steps)-1)
		}
		same(t, w.name+": Value", value(o), w.want)
		sameList(t, w.name+": around it", append(c.Words(0, base), c.Words(base+behind, c.Len())...), []int64{50, 51, 52, 53, 54})
	}
}

// P6.3: what Step tells is whether the operation is done behind it; one that
// is done does nothing more.
func TestStepTells(t *testing.T) {
	for _, w := range slices.Concat(pushes(), pops(), steals()) {
		c := cells.New(base + behind)
		c.Put(base, w.words...)
		d, _ := deque.New(c, base, 2, 2)
		o := w.begin(d)
		for i, e := range w.steps {
			if e.other {
				c.Put(base+e.at, e.word)
				continue
			}
			same(t, fmt.Sprintf("%s, step %d", w.name, i), o.Step(), i == len(w.steps)-1)
		}
		words, steps := c.Words(0, c.Len()), c.Steps()
		for range 3 {
			same(t, w.name+": Step of one that is done", o.Step(), true)
			same(t, w.name+": Value again", value(o), w.want)
		}
		same(t, w.name+": accesses behind its end", c.Steps(), steps)
		sameList(t, w.name+": cells behind its end", c.Words(0, c.Len()), words)
	}
}

// P6.2, the chapter's example: cap 2, over 1.
func TestExample(t *testing.T) {
	d, c := made(t, 5, 2, 1)
	for _, x := range []struct {
		v     int64
		steps int
		want  told
	}{
		{5, 4, told{5, api.OK}}, {6, 4, told{6, api.OK}}, {7, 7, told{7, api.OK}}, {8, 5, told{0, api.ErrFull}},
	} {
		o := d.Push(x.v)
		same(t, "steps of Push", d.Run(o), x.steps)
		same(t, "Push", value(o), x.want)
	}
	sameList(t, "Items", d.Items(), []int64{5, 6, 7})
	sameList(t, "cells", c.Words(5, 12), []int64{0, 2, 0, 1, 5, 6, 7})
	same(t, "Steal", end(d.Steal()), told{5, api.OK})
	same(t, "Pop", end(d.Pop()), told{6, api.OK})
	same(t, "Pop", end(d.Pop()), told{7, api.OK})
	same(t, "Pop", end(d.Pop()), told{0, api.ErrEmpty})
	same(t, "Push", end(d.Push(9)), told{9, api.OK})
	p, q := d.Steal(), d.Steal()
	same(t, "steps of two thieves", d.Run(p, q), 8)
	same(t, "the first one", value(p), told{9, api.OK})
	same(t, "the other one", value(q), told{0, api.ErrState})
}

// P6.2: without a stack what finds no slot is too much.
func TestNoStack(t *testing.T) {
	for _, n := range []int{1, 2, 63, 64} {
		d, _ := made(t, 2, n, 0)
		for i := range n {
			same(t, "Push", end(d.Push(int64(i))), told{int64(i), api.OK})
		}
		same(t, "Push too much", end(d.Push(99)), told{0, api.ErrFull})
		same(t, "Items", len(d.Items()), n)
		for i := range n {
			same(t, "Pop", end(d.Pop()), told{int64(n - 1 - i), api.OK})
		}
		same(t, "Pop", end(d.Pop()), told{0, api.ErrEmpty})
	}
}

// P6.2: the greatest deque takes all that it has room for.
func TestMost(t *testing.T) {
	d, _ := made(t, 1, 64, 4096)
	for i := range 64 + 4096 {
		same(t, "Push", end(d.Push(int64(i))), told{int64(i), api.OK})
	}
	same(t, "Push too much", end(d.Push(1)), told{0, api.ErrFull})
	same(t, "Items", len(d.Items()), 64+4096)
	same(t, "Stack", d.Stack(), 4096)
	for i := range 64 {
		same(t, "Steal", end(d.Steal()), told{int64(i), api.OK})
	}
	for i := range 4096 {
		same(t, "Steal by the stack", end(d.Steal()), told{int64(64 + 4095 - i), api.OK})
	}
	same(t, "Steal", end(d.Steal()), told{0, api.ErrEmpty})
}

// P6.2: slots go round behind the last one, as often as it comes.
func TestRound(t *testing.T) {
	for _, n := range []int{1, 2, 3, 7, 64} {
		d, _ := made(t, 0, n, 1)
		for i := range 5*n + 1 {
			v := int64(i)
			same(t, "Push", end(d.Push(v)), told{v, api.OK})
			sameList(t, "Items", d.Items(), []int64{v})
			same(t, "Top", d.Top(), v)
			same(t, "Bottom", d.Bottom(), v+1)
			same(t, "Steal", end(d.Steal()), told{v, api.OK})
		}
	}
}

// R3: an operation that is copied goes on by itself: its steps are the
// deque's.
func TestCopiedOp(t *testing.T) {
	d, _ := made(t, 0, 4, 0)
	o := d.Push(5)
	o.Step()
	copied := *o
	same(t, "the copy", end(&copied), told{5, api.OK})
	same(t, "the first one", o.Done(), false)
	same(t, "the first one", end(o), told{5, api.OK})
}
