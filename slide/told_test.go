package slide_test

import (
	"fmt"
	"testing"

	"ballast/api"
	"ballast/slide"
)

// P15.3: what is told ahead of the first step, at each step between, and behind
// the end, in several orders.
func TestToldAtEachStep(t *testing.T) {
	apartRow, apartArgs := apart()
	for _, x := range []struct {
		row
		args
	}{
		{example(), args{1, 21, 5, 2}}, {example(), args{1, 21, 5, 0}}, {example(), args{0, 30, 2, 0}}, {example(), args{0, 30, 1, 3}},
		{apartRow, apartArgs}, {row{24, []block{{3, 6}, {11, 1}, {13, 7}, {22, 1}}}, args{1, 24, 3, 2}},
	} {
		for workers := 1; workers <= 5; workers++ {
			for pace := 1; pace <= 4; pace++ {
				c := made(t, x.row, x.args, workers)
				c.told()
				for n := 0; !c.slide.Done() && n < 1000; n++ {
					c.step((n / pace) % workers)
					c.told()
				}
				for worker := range workers {
					c.step(worker)
					c.told()
				}
				same(t, c.what+": Done", c.slide.Done(), true)
			}
		}
	}
}

// P15.3: at first Waits are the plan's, in the end none waits; Moves are in the
// order of stores, whoever made them.
func TestFirstAndLast(t *testing.T) {
	x, a := apart()
	c := made(t, x, a, 3)
	sameList(t, "Moves at first", c.slide.Moves())
	sameList(t, "Waits at first", c.slide.Waits(), c.p.Waits...)
	same(t, "Done at first", c.slide.Done(), false)
	for worker := range 3 {
		c.steps(worker, 1)
	}
	for _, worker := range []int{1, 1, 2, 0, 2, 0, 0, 1, 0, 1} {
		c.step(worker)
	}
	sameList(t, "Moves", c.slide.Moves(), [2]int{16, 4}, [2]int{20, 8}, [2]int{12, 0}, [2]int{13, 1}, [2]int{17, 5})
	c.end()
	sameList(t, "Waits in the end", c.slide.Waits(), 0, 0, 0, 0, 0, 0)
	sameList(t, "Ready in the end", c.slide.Ready())
	same(t, "Moves in the end", len(c.slide.Moves()), 12)
}

// P15.3: of each region there is a Waits, of those without a Goal, too; these
// are never ready.
func TestRegionsWithoutAGoal(t *testing.T) {
	c := made(t, example(), args{1, 30, 5, 2}, 1)
	for n := 0; n < 40; n++ {
		same(t, "Waits", len(c.slide.Waits()), 6)
		for _, region := range c.slide.Ready() {
			if region < 1 || region > 2 {
				t.Errorf("behind %d steps the region %d is ready", n, region)
			}
		}
		c.step(0)
	}
	c = made(t, row{9, nil}, args{0, 9, 2, 0}, 1)
	sameList(t, "Waits of nothing", c.slide.Waits(), 0, 0, 0, 0, 0)
	sameList(t, "Ready of nothing", c.slide.Ready())
	sameList(t, "Moves of nothing", c.slide.Moves())
	c = made(t, row{9, nil}, args{3, 3, 2, 0}, 1)
	sameList(t, "Waits of no word", c.slide.Waits())
	sameList(t, "Ready of no word", c.slide.Ready())
}

// P15.3: no call that tells is an access, or changes anything.
func TestTellingIsNoAccess(t *testing.T) {
	c := made(t, example(), args{1, 21, 5, 0}, 2)
	for n := range 60 {
		before := c.heap.Steps()
		for range 3 {
			c.told()
		}
		same(t, "accesses", c.heap.Steps(), before)
		sameList(t, "the heap", all(c.heap), c.model.words...)
		c.step(n % 2)
	}
	same(t, "Done", c.slide.Done(), true)
}

// R3: what was told is the caller's own: it doesn't change later, and what is
// done to it, also behind its end, has no effect.
func TestToldIsTheCallersOwn(t *testing.T) {
	x, a := apart()
	c := made(t, x, a, 2)
	for n := 0; n < 40; n++ {
		moves, ready, waits := c.slide.Moves(), c.slide.Ready(), c.slide.Waits()
		told := fmt.Sprint(moves, ready, waits)
		c.step(n % 2)
		same(t, fmt.Sprint("what was told behind ", n, " steps"), fmt.Sprint(moves, ready, waits), told)
		for i := range moves {
			moves[i] = [2]int{-5, 99}
		}
		for i := range ready {
			ready[i] = 99
		}
		for i := range waits {
			waits[i] = -3
		}
		moves, ready, waits = append(moves, [2]int{-6, 98}), append(ready, 98, 97), append(waits, -4)
		c.told()
		c.step((n + n/2) % 2)
		c.told()
		same(t, "what is left of it", moves[len(moves)-1][0]+ready[len(ready)-1]+waits[len(waits)-1], -6+97-4)
	}
	same(t, "Done", c.slide.Done(), true)
	moves := c.slide.Moves()
	moves[0] = [2]int{-1, -1}
	c.told()
}

// tellsNothing holds what a slider tells that has nothing to copy.
func tellsNothing(t *testing.T, s *slide.Slider) {
	t.Helper()
	for range 2 {
		for _, worker := range append(far(), 0, 1, 63) {
			same(t, fmt.Sprint("Step ", worker), s.Step(worker), api.End)
		}
		same(t, "Done", s.Done(), true)
		same(t, "Moves", len(s.Moves()), 0)
		same(t, "Ready", len(s.Ready()), 0)
		same(t, "Waits", len(s.Waits()), 0)
	}
}

// The chapter's nil slider, at each call; P1: a zero one is as none; P15.1: so
// is what comes with an error.
func TestNone(t *testing.T) {
	tellsNothing(t, nil)
	tellsNothing(t, &slide.Slider{})
	x := example()
	b := x.bits(t)
	s, errno := slide.New(x.heap(), b, planned(t, b, args{1, 21, 5, 2}), 0)
	same(t, "New", errno, api.ErrArg)
	tellsNothing(t, s)
}
