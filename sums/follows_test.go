package sums_test

import (
	"fmt"
	"math"
	"math/rand"
	"slices"
	"testing"

	"ballast/api"
)

// every does a play once for each order in which n things may be picked so
// many times.
func every(n, picks int, play func(order []int)) {
	order := make([]int, picks)
	for {
		play(order)
		at := picks - 1
		for ; at >= 0 && order[at] == n-1; at-- {
			order[at] = 0
		}
		if at < 0 {
			return
		}
		order[at]++
	}
}

// turns goes through the workers in this order, again and again: all end, each
// within the steps that P12.5 allows.
func (c *crew) turns(order []int) {
	c.t.Helper()
	ended, most := make([]int, c.workers), c.most()
	for step := 1; slices.Contains(ended, 0); step++ {
		if step > most {
			c.t.Fatalf("%s: behind %d steps each: have ended: %v", c.what, most, ended)
		}
		for _, worker := range order {
			if c.Step(worker) == api.End {
				ended[worker] = 1
			}
		}
	}
	same(c.t, c.what+": done", c.Done(), true)
	c.right()
}

func below(n int) []int {
	l := make([]int, n)
	for i := range l {
		l[i] = i
	}
	return l
}

// P12.5: every order of the first steps of small sums, then by turns.
func TestEveryOrder(t *testing.T) {
	for _, x := range []struct{ values, workers, block, picks int }{
		{0, 2, 1, 8}, {1, 2, 1, 12}, {2, 2, 1, 14}, {3, 2, 2, 14}, {2, 3, 1, 8}, {4, 3, 2, 8}, {3, 4, 1, 6},
	} {
		every(x.workers, x.picks, func(order []int) {
			c := made(t, count(x.values), x.workers, x.block)
			for _, worker := range order {
				c.Step(worker)
			}
			c.end()
			c.right()
		})
	}
}

// P12.5: by turns all end within the steps, whoever is the first.
func TestByTurns(t *testing.T) {
	for values := range 18 {
		for _, workers := range []int{1, 2, 3, 4, 7, 16, 64} {
			for block := 1; block <= values+2; block++ {
				rising := below(workers)
				made(t, count(values), workers, block).turns(rising)
				falling := slices.Clone(rising)
				slices.Reverse(falling)
				made(t, count(values), workers, block).turns(falling)
			}
		}
	}
}

// P12.5: the same with longer rows, any words, and any order within a turn.
func TestByTurnsInAnyOrder(t *testing.T) {
	for seed := range int64(200) {
		r := rand.New(rand.NewSource(seed))
		workers := 1 + r.Intn(64)
		c := made(t, anyValues(r, r.Intn(200)), workers, 1+r.Intn(40))
		c.what = fmt.Sprint("seed ", seed, ": ", c.what)
		c.turns(r.Perm(workers))
	}
}

// P12.5: any row, gang, block and order of steps: the result is Plain's.
func TestAnyOrder(t *testing.T) {
	for seed := range int64(600) {
		r := rand.New(rand.NewSource(seed))
		workers := 1 + r.Intn(1+r.Intn(64))
		c := made(t, anyValues(r, r.Intn(120)), workers, 1+r.Intn(1+r.Intn(130)))
		c.what = fmt.Sprint("seed ", seed, ": ", c.what)
		for n := 0; !c.Done() && n < 100000; {
			worker := r.Intn(workers)
			for range 1 + r.Intn(1+r.Intn(60)) {
				c.Step(worker)
				n++
			}
		}
		same(t, c.what+": done", c.Done(), true)
		c.right()
	}
}

// P12.5: each runs as far as it can, the first one or the last one first.
func TestOneBehindTheOther(t *testing.T) {
	for _, workers := range []int{1, 2, 3, 64} {
		for _, block := range []int{1, 3, 10, 31} {
			for _, first := range []int{0, workers - 1} {
				c := made(t, count(30), workers, block)
				for n := 0; !c.Done() && n < 4*workers; n++ {
					c.steps((first+n)%workers, c.most())
				}
				same(t, c.what+": done", c.Done(), true)
				c.right()
			}
		}
	}
}

// P12.5: one of them comes rarely, worker 0 among them.
func TestRareWorker(t *testing.T) {
	for rare := range 4 {
		c := made(t, count(25), 4, 3)
		for n := 0; !c.Done() && n < 100000; n++ {
			if worker := n % 4; worker != rare {
				c.Step(worker)
			}
			if n%50 == 0 {
				c.Step(rare)
			}
		}
		same(t, c.what+": done", c.Done(), true)
		c.right()
	}
}

// P12.5, P12.1: sums beyond both ends of int64, within blocks and over them.
func TestBeyondTheEnds(t *testing.T) {
	for _, values := range [][]int64{
		slices.Repeat([]int64{math.MaxInt64}, 9),
		slices.Repeat([]int64{math.MinInt64}, 9),
		{math.MaxInt64, 1, math.MinInt64, -1, math.MinInt64, math.MaxInt64, 5, -1 << 62, -1 << 62, -1 << 62},
	} {
		for block := 1; block <= 11; block++ {
			for _, workers := range []int{1, 2, 5} {
				c := made(t, values, workers, block)
				c.end()
				ahead, sum, _ := c.Result()
				for i := range values {
					same(t, fmt.Sprint(c.what, ": ahead of ", i), ahead[i], exact(values[:i]...))
				}
				same(t, c.what+": the sum", sum, exact(values...))
			}
		}
	}
}

// P12.5: as many values as there may be.
func TestMostValues(t *testing.T) {
	for _, x := range []struct{ workers, block int }{{1, 1}, {3, 1}, {64, 100}, {64, 1024}, {5, 65535}, {64, 65536}, {2, 65537}, {7, math.MaxInt}} {
		c := made(t, count(65536), x.workers, x.block)
		most := x.workers * c.most()
		for n := 0; !c.Done() && n < most; n++ {
			c.Step(n % x.workers)
		}
		same(t, c.what+": done", c.Done(), true)
		c.right()
	}
}

// R4: the same calls have the same answers.
func TestSameCallsSameAnswers(t *testing.T) {
	for seed := range int64(50) {
		r := rand.New(rand.NewSource(seed))
		values, workers, block := anyValues(r, r.Intn(60)), 1+r.Intn(8), 1+r.Intn(20)
		c, twin := made(t, values, workers, block), made(t, values, workers, block)
		for n := 0; !c.Done() && n < 100000; n++ {
			worker := r.Intn(workers+2) - 1
			same(t, fmt.Sprint("seed ", seed, ", step ", n), c.Step(worker), twin.Step(worker))
			same(t, fmt.Sprint("seed ", seed, ", done behind step ", n), c.Done(), twin.Done())
		}
		sameList(t, fmt.Sprint("seed ", seed, ": control"), c.control.Words(0, 3), twin.control.Words(0, 3))
		c.right()
		twin.right()
	}
}

// P1: control is shared, and whatever others write there no step panics; once
// they leave it alone by turns all end.
func TestControlOfOthers(t *testing.T) {
	words := []int64{0, 1, 2, 3, 5, 1000, -1, -1000, math.MaxInt64, math.MinInt64}
	for seed := range int64(200) {
		r := rand.New(rand.NewSource(seed))
		workers := 1 + r.Intn(5)
		c := made(t, anyValues(r, r.Intn(20)), workers, 1+r.Intn(6))
		for range r.Intn(300) {
			c.Step(r.Intn(workers))
			if r.Intn(4) == 0 {
				c.control.Put(0, words[r.Intn(len(words))])
			}
		}
		c.control.Put(0, 0)
		c.end()
		ahead, _, errno := c.Result()
		same(t, fmt.Sprint("seed ", seed, ": Result"), errno, api.OK)
		same(t, fmt.Sprint("seed ", seed, ": how many"), len(ahead), len(c.values))
	}
}
