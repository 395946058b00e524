package deque_test

import (
	"fmt"
	"math"
	"testing"

	"ballast/api"
	"ballast/cells"
	"ballast/deque"
)

// P6.3: the slots from top to bottom, then the stack; no access.
func TestItems(t *testing.T) {
	for _, x := range []struct {
		name        string
		slots, over int
		words       []int64
		want        []int64
	}{
		{"nothing", 3, 2, []int64{0, 0, 0, 0, 1, 2, 3, 4, 5}, nil},
		{"one", 3, 2, []int64{0, 1, 0, 0, 1, 2, 3, 4, 5}, []int64{1}},
		{"all slots", 3, 2, []int64{0, 3, 0, 0, 1, 2, 3, 4, 5}, []int64{1, 2, 3}},
		{"the stack alone", 3, 2, []int64{0, 0, 0, 2, 1, 2, 3, 4, 5}, []int64{4, 5}},
		{"slots and stack", 3, 2, []int64{1, 3, 0, 1, 1, 2, 3, 4, 5}, []int64{2, 3, 4}},
		{"while it is locked", 3, 2, []int64{1, 3, 1, 1, 1, 2, 3, 4, 5}, []int64{2, 3, 4}},
		{"gone round", 3, 2, []int64{5, 7, 0, 2, 1, 2, 3, 4, 5}, []int64{3, 1, 4, 5}},
		{"gone round, all", 3, 2, []int64{4, 7, 0, 0, 1, 2, 3, 4, 5}, []int64{2, 3, 1}},
		{"to the last slot", 3, 2, []int64{4, 6, 0, 0, 1, 2, 3, 4, 5}, []int64{2, 3}},
		{"from the first slot", 3, 2, []int64{6, 8, 0, 0, 1, 2, 3, 4, 5}, []int64{1, 2}},
		{"one slot", 1, 0, []int64{9, 10, 0, 0, 7}, []int64{7}},
		{"one slot, nothing", 1, 0, []int64{9, 9, 0, 0, 7}, nil},
		{"the bottom ahead of the top", 3, 2, []int64{4, 3, 0, 1, 1, 2, 3, 4, 5}, []int64{4}},
		{"far ahead", 3, 2, []int64{math.MaxInt64, math.MinInt64, 0, 1, 1, 2, 3, 4, 5}, []int64{4}},
		{"more than there are slots", 3, 2, []int64{1, 9, 0, 1, 1, 2, 3, 4, 5}, []int64{2, 3, 1, 4}},
		{"far more", 3, 2, []int64{math.MinInt64 + 2, math.MaxInt64, 0, 0, 1, 2, 3, 4, 5}, []int64{1, 2, 3}},
		{"a top below 0", 3, 2, []int64{-4, -2, 0, 0, 1, 2, 3, 4, 5}, []int64{3, 1}},
		{"more than the stack has cells", 3, 2, []int64{0, 1, 0, 3, 1, 2, 3, 4, 5}, []int64{1, 4, 5}},
		{"far more than those", 3, 2, []int64{0, 1, 0, math.MaxInt64, 1, 2, 3, 4, 5}, []int64{1, 4, 5}},
		{"less than none in the stack", 3, 2, []int64{0, 1, 0, -1, 1, 2, 3, 4, 5}, []int64{1}},
		{"far less than those", 3, 2, []int64{0, 1, 0, math.MinInt64, 1, 2, 3, 4, 5}, []int64{1}},
	} {
		c := cells.New(30)
		c.Put(7, x.words...)
		d, errno := deque.New(c, 7, x.slots, x.over)
		same(t, x.name+": New", errno, api.OK)
		sameList(t, x.name, d.Items(), x.want)
		same(t, x.name+": accesses", c.Steps(), 0)
		sameList(t, x.name+": cells", c.Words(7, 7+len(x.words)), x.words)
	}
}

// P6.3: as it lies there: between the steps of a push and of a pop.
func TestItemsBetweenSteps(t *testing.T) {
	d, _ := made(t, 2, 2, 1)
	end(d.Push(4))
	o := d.Push(5)
	for _, want := range [][]int64{{4}, {4}, {4}, {4, 5}} {
		o.Step()
		sameList(t, "within Push", d.Items(), want)
	}
	o = d.Pop()
	for _, want := range [][]int64{{4, 5}, {4}, {4}, {4}} {
		o.Step()
		sameList(t, "within Pop", d.Items(), want)
	}
	o = d.Pop()
	for range 6 {
		o.Step()
		sameList(t, "within Pop of the last", d.Items(), map[bool][]int64{true: {4}}[d.Bottom() > d.Top()])
	}
	same(t, "Pop of the last", value(o), told{4, api.OK})
}

// R3: what Items tells is its owner's.
func TestItemsAreACopy(t *testing.T) {
	d, c := made(t, 2, 2, 1)
	for v := range 3 {
		end(d.Push(int64(v + 1)))
	}
	l, words := d.Items(), c.Words(0, c.Len())
	for i := range l {
		l[i] = 99
	}
	l = append(l, 98)
	sameList(t, "cells", c.Words(0, c.Len()), words)
	sameList(t, "Items", d.Items(), []int64{1, 2, 3})
	kept := d.Items()
	end(d.Steal())
	sameList(t, "told before", kept, []int64{1, 2, 3})
}

// P6.3: Top, Bottom and Stack are one access each, Items none.
func TestWordsTold(t *testing.T) {
	d, c := made(t, 3, 2, 1)
	c.Put(3, 11, 12, 13, 14, 15, 16, 17)
	for i, x := range []struct {
		name string
		tell func() int64
		want int64
	}{{"Top", d.Top, 11}, {"Bottom", d.Bottom, 12}, {"Stack", d.Stack, 14}} {
		same(t, x.name, x.tell(), x.want)
		same(t, x.name+": accesses", c.Steps(), i+1)
	}
	d.Items()
	same(t, "Items: accesses", c.Steps(), 3)
	sameList(t, "cells", c.Words(3, 10), []int64{11, 12, 13, 14, 15, 16, 17})
	for _, w := range []int64{math.MinInt64, -1, 0, math.MaxInt64} {
		c.Put(3, w, w, 0, w)
		same(t, "Top", d.Top(), w)
		same(t, "Bottom", d.Bottom(), w)
		same(t, "Stack", d.Stack(), w)
	}
}

// P6.3: Run of none, of those that are none or done already.
func TestRunOfNothing(t *testing.T) {
	d, c := made(t, 0, 2, 1)
	o := d.Push(3)
	end(o)
	steps := c.Steps()
	same(t, "Run()", d.Run(), 0)
	same(t, "Run of an empty list", d.Run([]*deque.Op{}...), 0)
	same(t, "Run(nil)", d.Run(nil), 0)
	same(t, "Run of those", d.Run(nil, o, &deque.Op{}, o, nil), 0)
	same(t, "accesses", c.Steps(), steps)
	same(t, "Value", value(o), told{3, api.OK})
}

// P6.3: Run goes by turns: one step of each that is not done, in order.
func TestRunByTurns(t *testing.T) {
	d, c := made(t, 0, 3, 2)
	e, f := made(t, 0, 3, 2)
	begin := func(d *deque.Deque) []*deque.Op {
		done := d.Push(40)
		end(done)
		end(d.Push(41))
		late := d.Steal()
		late.Step()
		return []*deque.Op{d.Pop(), nil, d.Steal(), done, d.Steal(), late, {}, d.Push(7), d.Steal()}
	}
	ops, plain := begin(d), begin(e)
	want := 0
	for again := true; again; {
		again = false
		for _, o := range plain {
			if !o.Done() {
				o.Step()
				want, again = want+1, true
			}
		}
	}
	kept := append([]*deque.Op{}, ops...)
	steps := c.Steps()
	same(t, "Run", d.Run(ops...), want)
	same(t, "accesses", c.Steps()-steps, want)
	for i, o := range ops {
		same(t, "the list is as it was", o == kept[i], true)
		same(t, fmt.Sprintf("Done of %d", i), o.Done(), true)
		same(t, fmt.Sprintf("Value of %d", i), value(o), value(plain[i]))
	}
	sameList(t, "cells", c.Words(0, c.Len()), f.Words(0, f.Len()))
}

// P6.3: Run begins where each operation is; another deque's are done too.
func TestRunGoesOn(t *testing.T) {
	d, _ := made(t, 0, 2, 1)
	e, _ := made(t, 0, 2, 1)
	o, p := d.Push(3), e.Push(4)
	o.Step()
	o.Step()
	same(t, "Run", d.Run(o, p), 6)
	same(t, "its own", value(o), told{3, api.OK})
	same(t, "another's", value(p), told{4, api.OK})
}

// P6.3: one that stands there twice has two steps in a round, and none behind
// its end.
func TestRunOfTwice(t *testing.T) {
	d, c := made(t, 0, 2, 1)
	o, p := d.Push(3), d.Push(4)
	same(t, "Run", d.Run(o, o, o), 4)
	same(t, "accesses", c.Steps(), 4)
	same(t, "Value", value(o), told{3, api.OK})
	same(t, "Run", d.Run(p, o, p), 4)
	sameList(t, "Items", d.Items(), []int64{3, 4})
}

// P6.3: 100000 steps are the most, however many operations there are; they
// go on from there.
func TestRunOfEndless(t *testing.T) {
	d, c := made(t, 0, 2, 2)
	c.Put(0, 0, 0, 1, 2, 0, 0, 5, 6)
	p, q, r := d.Steal(), d.Pop(), d.Push(4)
	same(t, "Run of one", d.Run(p), 100000)
	same(t, "accesses", c.Steps(), 100000)
	same(t, "Done", p.Done(), false)
	same(t, "Run of several", d.Run(p, nil, r, q), 100000)
	same(t, "the one that has no need of the lock", value(r), told{4, api.OK})
	same(t, "Value", value(q), told{0, api.ErrState})
	c.Put(2, 0)
	same(t, "Run behind it", d.Run(p), 5)
	same(t, "Value", value(p), told{6, api.OK})
	c.Put(2, 7)
	same(t, "Run where the lock is another word", d.Run(q), 100000)
}

// P6.3, R5: a list may be long; steps are counted one by one, also where the
// last round has too many.
func TestRunOfMany(t *testing.T) {
	d, c := made(t, 0, 2, 2)
	c.Put(2, 1)
	var l []*deque.Op
	for range 33333 {
		l = append(l, d.Steal())
	}
	same(t, "Run", d.Run(l...), 100000)
	same(t, "accesses", c.Steps(), 100000)
	c.Put(2, 0)
	same(t, "the first one had one step more", d.Run(l[0]), 3)
	done := make([]*deque.Op, 100000)
	same(t, "Run of one among many that are done", d.Run(append(done, d.Push(1))...), 4)
	c.Put(2, 1)
	same(t, "Run of an endless one among many that are done", d.Run(append(done, l[1])...), 100000)
}

// P6.2, P1: whatever the cells say, each step is one access within the
// deque's own cells, and nothing panics.
func TestAnyWords(t *testing.T) {
	words := []int64{math.MinInt64, math.MinInt64 + 1, -65, -3, -1, 0, 1, 2, 3, 5, 64, 4097, 1 << 40, math.MaxInt64 - 1, math.MaxInt64}
	ops := map[string]func(d *deque.Deque) *deque.Op{"Push": push(5), "Pop": pop, "Steal": steal}
	for _, top := range words {
		for _, bottom := range words {
			for _, n := range words {
				for name, begin := range ops {
					c := cells.New(20)
					c.Put(0, 60, 61, 62, 63, 64, top, bottom, 0, n, 31, 32, 33, 34, 35, 65, 66, 67, 68, 69, 70)
					d, _ := deque.New(c, 5, 3, 2)
					o := begin(d)
					what := fmt.Sprintf("%s at %d, %d, %d", name, top, bottom, n)
					steps := d.Run(o)
					same(t, what+": done", o.Done() && steps <= 12, true)
					same(t, what+": accesses", c.Steps(), steps)
					sameList(t, what+": ahead", c.Words(0, 5), []int64{60, 61, 62, 63, 64})
					sameList(t, what+": behind", c.Words(14, 20), []int64{65, 66, 67, 68, 69, 70})
					same(t, what+": lock", c.Words(7, 8)[0], 0)
					if v, errno := o.Value(); errno == api.OK && name != "Push" && (v < 31 || v > 35) {
						t.Errorf("%s: told %d", what, v)
					}
					if len(d.Items()) > 5 {
						t.Errorf("%s: Items %v", what, d.Items())
					}
				}
			}
		}
	}
}

// P6.2: the slot of a number is at that number modulo cap, for one below 0
// too; b - t may be more than any int64.
func TestFarNumbers(t *testing.T) {
	d, c := made(t, 0, 3, 1)
	c.Put(0, -5, -4, 0, 0, 31, 32, 33, 34)
	same(t, "Push below 0", end(d.Push(7)), told{7, api.OK})
	sameList(t, "cells", c.Words(0, 8), []int64{-5, -3, 0, 0, 31, 32, 7, 34})
	same(t, "Steal below 0", end(d.Steal()), told{32, api.OK})
	same(t, "Pop below 0", end(d.Pop()), told{7, api.OK})
	c.Put(0, math.MinInt64, math.MaxInt64, 0, 0, 31, 32, 33, 34)
	same(t, "Push where they are far apart", end(d.Push(8)), told{8, api.OK})
	sameList(t, "cells", c.Words(0, 8), []int64{math.MinInt64, math.MaxInt64, 0, 1, 31, 32, 33, 8})
	c.Put(0, math.MaxInt64, math.MinInt64, 0, 0, 31, 32, 33, 34)
	same(t, "Push where they are far apart, the other way", end(d.Push(9)), told{9, api.OK})
	sameList(t, "cells", c.Words(0, 8), []int64{math.MaxInt64, math.MinInt64 + 1, 0, 0, 31, 9, 33, 34})
}
