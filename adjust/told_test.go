package adjust_test

import (
	"fmt"
	"testing"

	"ballast/adjust"
	"ballast/api"
	"ballast/cells"
)

// P14.3: Done is told once all have ended, not ahead of it, in whatever order.
func TestDone(t *testing.T) {
	for _, workers := range []int{1, 2, 3, 7, 64} {
		g, p := example(t)
		c := made(t, fmt.Sprint(workers, " workers"), g, p, workers)
		ended := map[int]bool{}
		for n := 0; len(ended) < workers && n < 10000; n++ {
			same(t, c.what+": Done", c.Done(), false)
			worker := (n*5 + n/7) % workers
			if c.Step(worker) == api.End {
				ended[worker] = true
			}
			if t.Failed() {
				return
			}
		}
		same(t, c.what+": all have ended", len(ended), workers)
		same(t, c.what+": Done", c.Done(), true)
		same(t, c.what+": Done again", c.Done(), true)
	}
}

// P14.3: no call that tells is an access, or changes anything.
func TestTellingIsNoAccess(t *testing.T) {
	g, p := example(t)
	c := made(t, "telling", g, p, 2)
	for n := range 40 {
		words, control, accesses := all(g.heap), all(c.control)[0], c.accesses()
		for range 3 {
			c.Done()
			c.Fault()
			adjust.Roots(g.bits, p, 9, 5, 0)
		}
		sameList(t, "the heap", all(g.heap), words...)
		same(t, "control", all(c.control)[0], control)
		same(t, "accesses", c.accesses(), accesses)
		c.Step(n % 2)
	}
	same(t, "Done", c.Done(), true)
	same(t, "the word 10", all(g.heap)[10], 11)
}

// P14.3: Fault tells ErrHeap once a wrong ref was read, and from then on.
func TestFaultFromThenOn(t *testing.T) {
	for wrong := range 5 {
		g := laid(t, 30, block{3, arrayOfRefs, 5}, block{20, bare, 0})
		g.heap.Put(4, 20, 20, 20, 20, 20)
		g.heap.Put(4+wrong, 19)
		c := made(t, fmt.Sprint("the reference ", wrong), g, g.plan(t, 1, 30, 8, 0), 2)
		for n := 0; !c.Done() && n < 100; n++ {
			want := api.OK
			if g.heap.Steps() >= 1+2*wrong+1 {
				want = api.ErrHeap
			}
			same(t, fmt.Sprint(c.what, ", behind ", g.heap.Steps(), " accesses"), c.Fault(), want)
			c.Step(0)
			if n > 50 {
				c.Step(1)
			}
		}
		same(t, c.what+": in the end", c.Fault(), api.ErrHeap)
		c.steps(0, 2)
		same(t, c.what+": later", c.Fault(), api.ErrHeap)
	}
}

// P14.3: a fault that one worker finds is told of all; Roots has none to tell.
func TestFaultOfAnyWorker(t *testing.T) {
	for worker := range 3 {
		g := knots(t, 3)
		g.heap.Put(2+3*2, 5)
		c := made(t, fmt.Sprint("worker ", worker), g, g.plan(t, 1, 10, 3, 0), 3)
		adjust.Roots(g.bits, c.p, 5, -1, 99)
		c.steps((worker+1)%3, 1)
		c.steps((worker+2)%3, 1)
		same(t, c.what+": at first", c.Fault(), api.OK)
		c.steps(worker, 3)
		same(t, c.what, c.Fault(), api.ErrHeap)
		c.end()
		same(t, c.what+": in the end", c.Fault(), api.ErrHeap)
	}
}

// P14.3: a fault is its adjuster's alone: another one, on the same heap, tells
// its own.
func TestFaultIsItsOwn(t *testing.T) {
	g := knots(t, 3)
	g.heap.Put(5, 6)
	c := made(t, "a fault", g, g.plan(t, 1, 10, 3, 0), 1)
	c.end()
	same(t, c.what, c.Fault(), api.ErrHeap)
	g.heap.Put(5, 0)
	other := made(t, "none", g, g.plan(t, 1, 10, 3, 0), 1)
	other.end()
	same(t, other.what, other.Fault(), api.OK)
	same(t, "the first one still tells it", c.Fault(), api.ErrHeap)
}

// The chapter's nil adjuster, at each call.
func TestNil(t *testing.T) {
	var a *adjust.Adjuster
	for _, worker := range append(far(), 0, 1) {
		same(t, fmt.Sprint("Step ", worker), a.Step(worker), api.End)
	}
	same(t, "Done", a.Done(), true)
	same(t, "Fault", a.Fault(), api.ErrArg)
}

// P1: a zero adjuster is none.
func TestZero(t *testing.T) {
	a := &adjust.Adjuster{}
	for _, worker := range append(far(), 0, 1) {
		same(t, fmt.Sprint("Step ", worker), a.Step(worker), api.End)
	}
	same(t, "Done", a.Done(), true)
	same(t, "Fault", a.Fault(), api.ErrArg)
}

// P14.1: with an error there is no adjuster: it tells what a nil one does.
func TestNoneIsMade(t *testing.T) {
	g, p := example(t)
	a, errno := adjust.New(g.heap, classList(), g.bits, p, cells.New(1), 0)
	same(t, "New", errno, api.ErrArg)
	same(t, "Step", a.Step(0), api.End)
	same(t, "Done", a.Done(), true)
	same(t, "Fault", a.Fault(), api.ErrArg)
}
