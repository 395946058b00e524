package sums_test

import (
	"fmt"
	"slices"
	"testing"

	"ballast/api"
	"ballast/cells"
	"ballast/sums"
)

// early holds that there is no result yet.
func (c *crew) early(when string) {
	c.t.Helper()
	ahead, sum, errno := c.Result()
	if len(ahead) > 0 || sum != 0 || errno != api.ErrState {
		c.t.Errorf("%s, %s: Result: %v, %d, %v", c.what, when, ahead, sum, errno)
	}
}

// The chapter's examples.
func TestExamples(t *testing.T) {
	ahead, sum := sums.Plain(3, 1, 4)
	sameList(t, "Plain", ahead, []int64{0, 3, 4})
	same(t, "Plain", sum, 8)

	s, errno := sums.New(cells.New(1), []int64{3, 1, 4}, 2, 2)
	same(t, "New", errno, api.OK)
	for n := 0; !s.Done() && n < 100; n++ {
		s.Step(n % 2)
	}
	ahead, sum, errno = s.Result()
	sameList(t, "Result", ahead, []int64{0, 3, 4})
	same(t, "Result", sum, 8)
	same(t, "Result", errno, api.OK)
}

// P12.4: not done, and no result, till the last one has ended, in whatever
// order; from then on both.
func TestDone(t *testing.T) {
	for _, values := range []int{0, 1, 7} {
		for _, workers := range []int{1, 2, 3, 64} {
			c := made(t, count(values), workers, 2)
			ended := make([]int, workers)
			for n := 0; slices.Contains(ended, 0) && n < workers*c.most(); n++ {
				same(t, c.what+": ahead of the last one's end", c.Done(), false)
				c.early("ahead of the last one's end")
				worker := workers - 1 - n%workers
				if c.Step(worker) == api.End {
					ended[worker] = 1
				}
			}
			same(t, c.what+": behind it", c.Done(), true)
			c.right()
			for worker := range workers {
				same(t, c.what+": a step behind it", c.Step(worker), api.End)
			}
			same(t, c.what+": still", c.Done(), true)
			c.right()
		}
	}
}

// P12.4: one that was never picked keeps all others from the end.
func TestDoneWithoutOne(t *testing.T) {
	for absent := range 3 {
		c := made(t, count(7), 3, 2)
		for range 300 {
			for worker := range 3 {
				if worker != absent {
					same(t, c.what+": a step", c.Step(worker), api.Go)
				}
			}
		}
		same(t, c.what+": done", c.Done(), false)
		c.early(fmt.Sprint("without worker ", absent))
		c.end()
		c.right()
	}
}

// P12.4, R3: what Result told is its caller's, and may be asked for again.
func TestResultIsTheCallers(t *testing.T) {
	c := made(t, []int64{3, 1, 4}, 2, 2)
	c.end()
	first, _, _ := c.Result()
	second, _, _ := c.Result()
	first[0], first[1], first[2] = 9, 9, 9
	_ = append(first[:1], 8, 8)
	sameList(t, "what was told", second, []int64{0, 3, 4})
	c.right()
	c.steps(0, 5)
	c.right()
}

// The chapter's nil object, at each call.
func TestNil(t *testing.T) {
	var s *sums.Sums
	for _, worker := range append(far(), 0, 1, 63, 64) {
		same(t, fmt.Sprint("Step ", worker), s.Step(worker), api.End)
	}
	same(t, "Done", s.Done(), true)
	ahead, sum, errno := s.Result()
	same(t, "Result", len(ahead), 0)
	same(t, "Result", sum, 0)
	same(t, "Result", errno, api.ErrArg)
	same(t, "Done still", s.Done(), true)
}

// P1, R1: a zero one is none.
func TestZero(t *testing.T) {
	s := &sums.Sums{}
	for _, worker := range append(far(), 0, 1, 63, 64) {
		same(t, fmt.Sprint("Step ", worker), s.Step(worker), api.End)
	}
	same(t, "Done", s.Done(), true)
	ahead, sum, errno := s.Result()
	same(t, "Result", len(ahead), 0)
	same(t, "Result", sum, 0)
	same(t, "Result", errno, api.ErrArg)
}
