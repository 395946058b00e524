package slide_test

import (
	"fmt"
	"slices"
	"testing"

	"ballast/api"
	"ballast/cells"
	"ballast/plan"
	"ballast/slide"
)

// The chapter's example, by hand: chapter 13's plan.
func TestExample(t *testing.T) {
	heap := cells.New(30)
	for at := range 30 {
		heap.Put(at, int64(at))
	}
	b := example().bits(t)
	s, errno := slide.New(heap, b, planned(t, b, args{1, 21, 5, 2}), 2)
	same(t, "New", errno, api.OK)
	sameList(t, "Ready", s.Ready(), 1)
	sameList(t, "Waits", s.Waits(), 0, 0, 1, 1)
	same(t, "region 1 is taken", s.Step(0), api.Go)
	sameList(t, "Ready", s.Ready())
	for n := range 10 {
		same(t, fmt.Sprint("nothing to do, ", n), s.Step(1), api.Go)
		same(t, "accesses", heap.Steps(), n)
		sameList(t, "Ready", s.Ready())
		sameList(t, "Waits", s.Waits(), 0, 0, 1, 1)
		same(t, fmt.Sprint("region 1, ", n), s.Step(0), api.Go)
		same(t, "accesses", heap.Steps(), n+1)
		same(t, "Moves", len(s.Moves()), (n+1)/2)
	}
	sameList(t, "Ready", s.Ready(), 2)
	sameList(t, "Waits", s.Waits(), 0, 0, 0, 1)
	sameList(t, "Moves", s.Moves(), [2]int{9, 6}, [2]int{10, 7}, [2]int{11, 8}, [2]int{12, 9}, [2]int{13, 10})
	same(t, "region 2 is taken", s.Step(1), api.Go)
	same(t, "accesses", heap.Steps(), 10)
	sameList(t, "Ready", s.Ready())
	for n := range 5 {
		same(t, fmt.Sprint("region 2, ", n), s.Step(1), api.Go)
		same(t, "nothing to do", s.Step(0), api.Go)
		same(t, "Done", s.Done(), false)
	}
	same(t, "the last word", s.Step(1), api.End)
	same(t, "Done", s.Done(), true)
	same(t, "accesses", heap.Steps(), 16)
	sameList(t, "Moves", s.Moves(), [2]int{9, 6}, [2]int{10, 7}, [2]int{11, 8}, [2]int{12, 9}, [2]int{13, 10}, [2]int{14, 11}, [2]int{15, 12}, [2]int{16, 13})
	sameList(t, "Waits", s.Waits(), 0, 0, 0, 0)
	sameList(t, "the heap", all(heap), 0, 1, 2, 3, 4, 5, 9, 10, 11, 12, 13, 14, 15, 16, 14, 15, 16, 17, 18, 19, 20, 21, 22, 23, 24, 25, 26, 27, 28, 29)
}

// P15.2: a step of who isn't there is none, and tells End, at any time.
func TestWhoIsNotThere(t *testing.T) {
	for _, workers := range []int{1, 2, 64} {
		c := made(t, example(), args{1, 21, 5, 2}, workers)
		for n := 0; n < 30; n++ {
			for _, worker := range append(far(), workers, workers+1, workers+64) {
				same(t, fmt.Sprint(c.what, ": a step of ", worker), c.step(worker), api.End)
			}
			c.told()
			c.step(0)
		}
	}
}

// P15.2: End is told once all are filled, to all, by the step that filled the
// last one, too; no step is anything from then on.
func TestEndIsToldToAll(t *testing.T) {
	for _, workers := range []int{1, 2, 5, 64} {
		for last := range workers {
			c := made(t, example(), args{1, 21, 5, 2}, workers)
			for n := range c.work() - 1 {
				same(t, fmt.Sprint(c.what, ", ", n), c.step(last), api.Go)
			}
			same(t, c.what+": Done ahead of the last step", c.slide.Done(), false)
			if workers > 1 {
				same(t, c.what+": another one", c.step((last+1)%workers), api.Go)
			}
			same(t, c.what+": the last step", c.step(last), api.End)
			for range 3 {
				for worker := range workers {
					same(t, c.what+": behind the end", c.step(worker), api.End)
				}
			}
			c.told()
			same(t, c.what+": accesses", c.heap.Steps(), 16)
		}
	}
}

// P15.2: one worker alone takes a step for each region and two for each word.
func TestOneWorkerAlone(t *testing.T) {
	for region := 1; region <= 31; region++ {
		for waste := range 20 {
			c := made(t, example(), args{0, 30, region, waste}, 1)
			n := 0
			for ; !c.slide.Done() && n < 200; n++ {
				c.step(0)
			}
			same(t, c.what+": steps", n, c.work())
			same(t, c.what+": accesses", c.heap.Steps(), 2*(c.p.Top-c.p.Dense))
		}
	}
}

// apart is a row whose first regions, of 4 words each, are wholly dead, and
// whose last ones live: each of the first ones is ready at once.
func apart() (row, args) {
	return row{24, []block{{12, 4}, {16, 2}, {18, 3}, {21, 3}}}, args{0, 24, 4, 0}
}

// P15.2: the least region that is ready is taken, whoever comes.
func TestTheLeastIsTaken(t *testing.T) {
	x, a := apart()
	for _, order := range [][]int{{0, 1, 2}, {2, 1, 0}, {1, 0, 2}} {
		c := made(t, x, a, 3)
		sameList(t, "Ready", c.slide.Ready(), 0, 1, 2)
		for n, worker := range order {
			c.step(worker)
			sameList(t, fmt.Sprint("Ready behind ", n), c.slide.Ready(), []int{0, 1, 2}[n+1:]...)
		}
		for n, worker := range order {
			c.steps(worker, 2)
			sameList(t, "the first word", c.slide.Moves()[n:], [2]int{12 + 4*n, 4 * n})
		}
		c.end()
		c.told()
	}
}

// P15.2: a region that is ready later is taken ahead of greater ones.
func TestTheLeastOfLater(t *testing.T) {
	// Of the regions 0 to 7, of 2 words each, 0 takes words out of 1, which
	// waits for it; 2 and 3 are wholly dead.
	x := row{16, []block{{2, 2}, {8, 6}}}
	c := made(t, x, args{0, 16, 2, 0}, 2)
	sameList(t, "Takes", c.p.Takes[:4], [2]int{1, 2}, [2]int{4, 5}, [2]int{5, 6}, [2]int{6, 7})
	sameList(t, "Ready", c.slide.Ready(), 0, 2, 3)
	c.steps(0, 5)
	sameList(t, "Ready once 0 is filled", c.slide.Ready(), 1, 2, 3)
	c.steps(1, 3)
	sameList(t, "the first word of 1", c.slide.Moves()[2:], [2]int{8, 2})
	c.told()
	c.steps(0, 3)
	sameList(t, "the first word of 2", c.slide.Moves()[3:], [2]int{10, 4})
	c.end()
	c.told()
}

// P15.2: a plan in which nothing moves is copied nevertheless, each word on
// itself; if all of it stays, nothing is.
func TestNothingMoves(t *testing.T) {
	for region := 1; region <= 12; region++ {
		for waste := range 12 {
			c := made(t, row{12, []block{{0, 4}, {4, 1}}}, args{0, 12, region, waste}, 2)
			before := all(c.heap)
			c.end()
			c.told()
			sameList(t, c.what+": the heap", all(c.heap), before...)
			for _, move := range c.slide.Moves() {
				same(t, c.what+": a word goes to itself", move[0], move[1])
			}
			same(t, c.what+": Moves", len(c.slide.Moves()), c.p.Top-c.p.Dense)
		}
	}
	c := made(t, row{12, []block{{0, 4}, {4, 1}}}, args{0, 12, 6, 0}, 2)
	same(t, "some are copied", c.p.Top-c.p.Dense, 5)
	c = made(t, row{12, []block{{0, 4}, {4, 1}}}, args{0, 12, 6, 12}, 2)
	same(t, "all stays: Done", c.slide.Done(), true)
	same(t, "all stays: Step", c.step(0), api.End)
	same(t, "all stays: accesses", c.heap.Steps(), 0)
	c = made(t, row{12, nil}, args{0, 12, 3, 0}, 2)
	same(t, "nothing lives: Done", c.slide.Done(), true)
	same(t, "nothing lives: Step", c.step(1), api.End)
	c.told()
}

// P15.2: one region alone, which takes words out of itself, by one worker
// while all others have nothing to do.
func TestOneRegion(t *testing.T) {
	for _, region := range []int{20, 21, 1 << 40, 1<<63 - 1} {
		for _, workers := range []int{1, 2, 7} {
			c := made(t, example(), args{1, 21, region, 0}, workers)
			sameList(t, c.what+": Ready", c.slide.Ready(), 0)
			sameList(t, c.what+": Waits", c.slide.Waits(), 0)
			for n := 0; !c.slide.Done(); n++ {
				for worker := range workers {
					c.step(workers - 1 - worker)
				}
				c.told()
			}
			sameList(t, c.what+": what stood there", c.heap.Words(1, 12), wordAt(1), wordAt(2), wordAt(3), wordAt(9), wordAt(10), wordAt(11), wordAt(12), wordAt(13), wordAt(14), wordAt(15), wordAt(16))
		}
	}
}

// P15.2: more regions than workers, and fewer.
func TestRegionsAndWorkers(t *testing.T) {
	for region := 1; region <= 30; region++ {
		for _, workers := range []int{1, 2, 3, 8, 64} {
			c := made(t, example(), args{0, 30, region, 0}, workers)
			c.end()
			c.told()
			same(t, c.what+": Moves", len(c.slide.Moves()), 11)
		}
	}
}

// P15.2, P15.3: regions that take words out of themselves alone, out of several
// others, and over a wholly dead one.
func TestWhatRegionsTakeOutOf(t *testing.T) {
	for name, x := range map[string]struct {
		row
		args
		takes [][2]int
		waits []int
	}{
		"itself alone": {
			row{12, []block{{1, 3}, {5, 3}, {9, 3}}}, args{0, 12, 12, 0},
			[][2]int{{0, 1}}, []int{0},
		},
		"each itself, the last one": {
			row{12, []block{{0, 3}, {4, 4}, {8, 1}, {10, 1}}}, args{0, 12, 4, 1},
			[][2]int{{0, 0}, {0, 0}, {2, 3}}, []int{0, 0, 0},
		},
		"several others": {
			row{20, []block{{5, 1}, {9, 1}, {13, 1}, {17, 1}}}, args{0, 20, 4, 0},
			[][2]int{{1, 5}, {0, 0}, {0, 0}, {0, 0}, {0, 0}}, []int{0, 1, 1, 1, 1},
		},
		"itself and several others": {
			row{20, []block{{1, 1}, {9, 1}, {13, 1}, {17, 2}}}, args{0, 20, 4, 0},
			[][2]int{{0, 5}, {4, 5}, {0, 0}, {0, 0}, {0, 0}}, []int{0, 0, 1, 1, 2},
		},
		"over a dead one": {
			row{20, []block{{5, 2}, {17, 2}}}, args{0, 20, 4, 0},
			[][2]int{{1, 5}, {0, 0}, {0, 0}, {0, 0}, {0, 0}}, []int{0, 1, 0, 0, 1},
		},
		"over a dead one that has a Goal": {
			row{20, []block{{1, 2}, {8, 4}, {14, 4}}}, args{0, 20, 4, 0},
			[][2]int{{0, 3}, {2, 4}, {4, 5}, {0, 0}, {0, 0}}, []int{0, 0, 2, 1, 1},
		},
	} {
		for workers := 1; workers <= 4; workers++ {
			c := made(t, x.row, x.args, workers)
			c.what = name + ": " + c.what
			sameList(t, c.what+": Takes", c.p.Takes, x.takes...)
			sameList(t, c.what+": Waits", c.slide.Waits(), x.waits...)
			for n := 0; !c.slide.Done() && n < 100; n++ {
				c.told()
				c.step(n % workers)
			}
			c.told()
		}
	}
}

// P15.2: a wholly dead region between those that one takes words out of waits
// for none: it is ready from the first on, though the other one isn't filled.
func TestOverADeadOne(t *testing.T) {
	x := row{20, []block{{1, 2}, {8, 4}, {14, 4}}}
	c := made(t, x, args{0, 20, 4, 0}, 2)
	sameList(t, "Ready", c.slide.Ready(), 0, 1)
	c.steps(0, 1)
	c.steps(1, 9)
	sameList(t, "region 1 is filled", c.slide.Waits(), 0, 0, 1, 0, 1)
	sameList(t, "region 2 waits for 0", c.slide.Ready())
	c.steps(1, 3)
	same(t, "nothing more is stored", len(c.slide.Moves()), 4)
	c.steps(0, 8)
	sameList(t, "region 2 is ready", c.slide.Ready(), 2)
	sameList(t, "Waits", c.slide.Waits(), 0, 0, 0, 0, 1)
	c.end()
	c.told()
}

// P15.2: a worker that stands still with a region in its hands has the others
// fill all that doesn't wait for it, and nothing else.
func TestOneStandsStill(t *testing.T) {
	x, a := apart()
	for first := range 9 {
		c := made(t, x, a, 3)
		c.steps(0, first)
		for range 60 {
			c.step(1)
			c.step(2)
		}
		c.told()
		same(t, c.what+": Done", c.slide.Done(), first == 0)
		sameList(t, c.what+": Ready", c.slide.Ready())
		for _, move := range c.slide.Moves() {
			if first > 0 && plan.Region(c.p, move[1]) == 0 && move[1] >= (first-1)/2 {
				t.Errorf("%s: another one has stored %v", c.what, move)
			}
		}
		c.end()
		c.told()
	}
}

// P15.2: a source is read in the step ahead of its store: what others write
// there meanwhile isn't copied, what they wrote ahead of it is.
func TestReadAheadOfStore(t *testing.T) {
	x := example()
	heap, b := x.heap(), x.bits(t)
	s, _ := slide.New(heap, b, planned(t, b, args{1, 21, 5, 2}), 1)
	s.Step(0)
	heap.Put(9, -1)
	s.Step(0)
	heap.Put(9, -2)
	sameList(t, "only read", heap.Words(6, 7), wordAt(6))
	s.Step(0)
	sameList(t, "stored", heap.Words(6, 7), -1)
	sameList(t, "the source stays", heap.Words(9, 10), -2)
}

// R4: sliders are apart: two of them over unlike heaps go on side by side.
func TestTwoSliders(t *testing.T) {
	one, other := made(t, example(), args{1, 21, 5, 2}, 2), made(t, example(), args{0, 30, 3, 0}, 2)
	for n := range 60 {
		one.step(n % 2)
		other.step((n + n/3) % 2)
		one.told()
		other.told()
	}
	same(t, "both are at their end", one.slide.Done() && other.slide.Done(), true)
	same(t, "both have moved", slices.Equal(one.slide.Moves(), other.slide.Moves()), false)
}
