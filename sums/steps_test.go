package sums_test

import (
	"fmt"
	"math"
	"math/rand"
	"slices"
	"testing"

	"ballast/api"
)

// kinds is what each step of one worker was, till it has ended: 1 with an
// access, 0 without.
func (c *crew) kinds(worker int) []int {
	c.t.Helper()
	var l []int
	for len(l) <= c.most() {
		accesses := c.control.Steps()
		told := c.Step(worker)
		l = append(l, c.control.Steps()-accesses)
		if told == api.End {
			break
		}
	}
	return l
}

// P12.3: one worker alone: it takes a block, adds up its values, one a step,
// and so on till there is none; then the blocks' sums, one a step; then it
// takes all again.
func TestWayOfOneWorker(t *testing.T) {
	for _, x := range []struct {
		values, block int
		pass          []int // its steps in the first phase, and in the third one
		blocks        int
	}{
		{0, 1, []int{1}, 0},
		{1, 1, []int{1, 0, 1}, 1},
		{3, 1, []int{1, 0, 1, 0, 1, 0, 1}, 3},
		{4, 2, []int{1, 0, 0, 1, 0, 0, 1}, 2},
		{5, 2, []int{1, 0, 0, 1, 0, 0, 1, 0, 1}, 3},
		{3, 9, []int{1, 0, 0, 0, 1}, 1},
		{2, math.MaxInt, []int{1, 0, 0, 1}, 1},
	} {
		c := made(t, count(x.values), 1, x.block)
		got, n := c.kinds(0), len(x.pass)
		if len(got) < 2*n {
			t.Errorf("%s: its steps: %v", c.what, got)
			continue
		}
		sameList(t, c.what+": the first phase", got[:n], x.pass)
		sameList(t, c.what+": the third phase", got[len(got)-n:], x.pass)
		between := got[n : len(got)-n]
		same(t, c.what+": accesses in the second phase", slices.Contains(between, 1), false)
		if len(between) < x.blocks || len(between) > x.blocks+1 {
			t.Errorf("%s: %d steps in the second phase", c.what, len(between))
		}
		same(t, c.what+": done", c.Done(), true)
		c.right()
	}
}

// P12.3: each block is taken once in each of two phases, and each worker finds
// none once: blocks of one value, of all, of more, and a last one with fewer.
func TestAccesses(t *testing.T) {
	for _, x := range []struct{ values, block, blocks int }{
		{0, 1, 0}, {0, 5, 0}, {1, 1, 1}, {1, 2, 1}, {6, 1, 6}, {6, 2, 3}, {6, 3, 2}, {6, 4, 2}, {6, 5, 2}, {6, 6, 1}, {6, 7, 1}, {7, 3, 3}, {50, 7, 8}, {6, math.MaxInt, 1},
	} {
		for _, workers := range []int{1, 2, 5, 64} {
			c := made(t, count(x.values), workers, x.block)
			r := rand.New(rand.NewSource(int64(x.values)))
			for n := 0; !c.Done() && n < 100000; n++ {
				c.Step(r.Intn(workers))
			}
			same(t, c.what+": accesses", c.control.Steps(), 2*(x.blocks+workers))
			c.right()
		}
	}
}

// P12.3: a step of who isn't there, and of who has ended, tells End, and does
// nothing.
func TestStepOfNobody(t *testing.T) {
	c, twin := made(t, count(7), 2, 2), made(t, count(7), 2, 2)
	nothing := func(what string, workers ...int) {
		t.Helper()
		words, accesses := c.control.Words(0, 3), c.control.Steps()
		for _, worker := range workers {
			same(t, fmt.Sprint(what, ": Step ", worker), c.Step(worker), api.End)
		}
		sameList(t, what+": control", c.control.Words(0, 3), words)
		same(t, what+": accesses", c.control.Steps(), accesses)
	}
	none := append(far(), -2, 2, 3, 63, 64)
	for n := 0; !twin.Done() && n < 2*twin.most(); n++ {
		nothing(fmt.Sprint("ahead of step ", n), none...)
		same(t, "not done by that", c.Done(), false)
		same(t, fmt.Sprint("step ", n), c.Step(n%2), twin.Step(n%2))
		same(t, "done", c.Done(), twin.Done())
		sameList(t, "control", c.control.Words(0, 3), twin.control.Words(0, 3))
	}
	nothing("at the end", append(none, 0, 1, 0, 1)...)
	c.right()
}

// P12.3: who found no block in the third phase has ended, whatever the others
// do: its steps tell End, and do nothing.
func TestStepOfWhoHasEnded(t *testing.T) {
	c := made(t, count(6), 3, 2)
	c.through()
	c.hold(1, 1)
	accesses := c.control.Steps()
	for _, worker := range []int{0, 2, 0, 2} {
		same(t, fmt.Sprint("Step ", worker), c.Step(worker), api.End)
	}
	same(t, "accesses", c.control.Steps(), accesses)
	same(t, "not all have", c.Done(), false)
	c.early("one goes")
	for n := 0; c.Step(1) == api.Go && n < 100; n++ {
		same(t, "not done", c.Done(), false)
	}
	same(t, "done", c.Done(), true)
	c.right()
}

// hold has one worker take a block of the phase that begins, and do so many
// steps more; then all the others do all that they can.
func (c *crew) hold(held, more int) {
	c.t.Helper()
	c.steps(held, 1+more)
	for range c.most() {
		for worker := range c.workers {
			if worker != held {
				c.Step(worker)
			}
		}
	}
}

// through goes through the first two phases, just to where the third one
// begins: nobody has taken a block there yet.
func (c *crew) through() {
	c.t.Helper()
	first := c.blocks() + c.workers
	for n := 0; c.control.Steps() < first && n < c.workers*c.most(); n++ {
		c.Step(n % c.workers)
	}
	c.steps(0, c.blocks()+1)
	for worker := 1; worker < c.workers; worker++ {
		c.Step(worker)
	}
	same(c.t, c.what+": accesses of the first two phases", c.control.Steps(), first)
}

// P12.3: as long as one has a block of the first phase, nobody is in the
// second one, nor in the third: the others have each found no block, and wait.
func TestFirstPhaseIsAllOf(t *testing.T) {
	for held := range 3 {
		for more := range 2 {
			c := made(t, count(9), 3, 3)
			c.hold(held, more)
			accesses := c.control.Steps()
			same(t, c.what+": all blocks, and two who found none", accesses, 3+2)
			for worker := range 3 {
				if worker != held {
					same(t, c.what+": who waits", c.Step(worker), api.Go)
				}
			}
			same(t, c.what+": who waits does nothing", c.control.Steps(), accesses)
			c.early("one is held")
			c.end()
			c.right()
		}
	}
}

// P12.3: worker 0 adds up the blocks' sums, and nobody else, one a step: the
// third phase is not begun ahead of that.
func TestSecondPhaseIsWorker0s(t *testing.T) {
	const blocks, workers = 20, 3
	c := made(t, count(blocks), workers, 1)
	for n := 0; c.control.Steps() < blocks+workers && n < 1000; n++ {
		c.Step(n % workers)
	}
	others := func() {
		t.Helper()
		for _, worker := range []int{1, 2, 1, 2} {
			same(t, "a step of others", c.Step(worker), api.Go)
		}
		same(t, "a block of the third phase is taken", c.control.Steps() > blocks+workers, false)
	}
	for range 50 {
		others()
	}
	for range blocks - 1 {
		c.Step(0)
		others()
	}
	c.end()
	c.right()
}

// P12.3: as long as one has a block of the third phase, there is no result;
// the others have ended.
func TestThirdPhaseIsAllOf(t *testing.T) {
	for held := range 3 {
		for more := range 3 {
			c := made(t, count(9), 3, 3)
			c.through()
			c.hold(held, more)
			same(t, c.what+": accesses", c.control.Steps(), 2*(3+3)-1)
			same(t, c.what+": done", c.Done(), false)
			c.early("one is held")
			c.end()
			c.right()
		}
	}
}

// P12.3: workers take blocks each, at the same time.
func TestWorkersShareBlocks(t *testing.T) {
	const workers, size = 8, 30
	c := made(t, count(workers*size), workers, size)
	for worker := range workers {
		accesses := c.control.Steps()
		c.Step(worker)
		same(t, fmt.Sprint("worker ", worker, " takes a block"), c.control.Steps(), accesses+1)
	}
	same(t, "all blocks are taken", c.control.Words(0, 1)[0], workers)
	rounds := 1
	for ; !c.Done() && rounds < c.most(); rounds++ {
		for worker := range workers {
			c.Step(worker)
		}
	}
	if most := 2*(size+2) + workers + 3; rounds > most {
		t.Errorf("%d steps each, want at most %d", rounds, most)
	}
	c.right()
}

// P12.3: no step adds more than one number: one worker, and all together,
// need as many as there are.
func TestOneNumberAStep(t *testing.T) {
	for _, workers := range []int{1, 2, 7} {
		for _, block := range []int{10, 50, 1000} {
			c := made(t, count(200), workers, block)
			steps := 0
			for ; !c.Done() && steps < workers*c.most(); steps++ {
				c.Step(steps % workers)
			}
			if least := 2 * (200 - c.blocks()); steps < least {
				t.Errorf("%s: %d steps, want at least %d", c.what, steps, least)
			}
			c.right()
		}
	}
}
