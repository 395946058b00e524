package slide_test

import (
	"fmt"
	"math/rand"
	"slices"
	"testing"

	"ballast/api"
	"ballast/plan"
	"ballast/slide"
)

// play is a crew that is held to P15.4 at each step, by what is told of the
// plan and of the moves alone.
type play struct {
	*crew
	before []int64
	seen   int           // moves that were looked at
	left   []int         // of each region: words of its Goal that are not stored to
	outOf  []map[int]int // of each region: which others take words out of it
	from   map[int]int   // words that were copied: how often
	to     map[int]int   // words that were stored to: how often
	most   int           // regions that some worker had, at one time
}

func begun(t *testing.T, r row, a args, workers int) *play {
	t.Helper()
	q := &play{crew: made(t, r, a, workers), from: map[int]int{}, to: map[int]int{}}
	q.before = all(q.heap)
	q.outOf = make([]map[int]int, len(q.p.Live))
	for region := range q.p.Live {
		q.outOf[region] = map[int]int{}
	}
	for region := range q.p.Live {
		from, to := plan.Goal(q.p, region)
		q.left = append(q.left, to-from)
		for at := from; at < to; at++ {
			if other := plan.Region(q.p, plan.Source(q.p, q.bits, at)); other != region {
				q.outOf[other][region]++
			}
		}
	}
	return q
}

func (q *play) step(worker int) int {
	q.t.Helper()
	told := q.crew.step(worker)
	moves := q.slide.Moves()
	for ; q.seen < len(moves); q.seen++ {
		q.stored(moves[q.seen])
	}
	q.goesOn()
	return told
}

// stored holds a store: nobody takes words out of that region any more.
func (q *play) stored(move [2]int) {
	q.t.Helper()
	region := plan.Region(q.p, move[1])
	for other := range q.outOf[region] {
		if q.left[other] > 0 {
			q.t.Fatalf("%s: %v is stored to the region %d, but %d, which takes words out of it, isn't filled", q.what, move, region, other)
		}
	}
	q.left[region]--
	q.from[move[0]]++
	q.to[move[1]]++
	if q.to[move[1]] > 1 || q.from[move[0]] > 1 {
		q.t.Fatalf("%s: %v is one too many", q.what, move)
	}
}

// goesOn: as long as not all are filled, some region is ready, or some worker
// has one.
func (q *play) goesOn() {
	q.t.Helper()
	had := 0
	for _, h := range q.model.workers {
		if h.region >= 0 {
			had++
		}
	}
	q.most = max(q.most, had)
	filled := !slices.ContainsFunc(q.left, func(n int) bool { return n > 0 })
	if filled != q.slide.Done() || !filled && had == 0 && len(q.slide.Ready()) == 0 {
		q.t.Fatalf("%s: behind %d moves: Done %v, %d workers with a region, Ready %v", q.what, q.seen, q.slide.Done(), had, q.slide.Ready())
	}
}

// finish goes by turns, and holds the heap in the end.
func (q *play) finish() {
	q.t.Helper()
	for n := 0; !q.slide.Done(); n++ {
		if n > q.work() {
			q.t.Fatalf("%s: not all are filled behind %d steps of each", q.what, n)
		}
		for worker := range q.model.workers {
			q.step(worker)
		}
	}
	q.told()
	q.holds()
}

func (q *play) holds() {
	q.t.Helper()
	lives := q.row.lives()
	for at, word := range all(q.heap) {
		want := q.before[at]
		if q.p.Dense <= at && at < q.p.Top {
			want = q.before[plan.Source(q.p, q.bits, at)]
		}
		if word != want {
			q.t.Fatalf("%s: the word %d is %d in the end, want %d", q.what, at, word, want)
		}
		copies := 0
		if lives[at] && q.p.Dense <= at && at < q.p.To {
			copies = 1
		}
		if q.from[at] != copies {
			q.t.Fatalf("%s: the word %d is copied %d times, want %d", q.what, at, q.from[at], copies)
		}
	}
}

// atRandom does so many steps; a worker that the order favours less may be
// stopped in the midst for long.
func (q *play) atRandom(r *rand.Rand, steps int) {
	q.t.Helper()
	workers := len(q.model.workers)
	weights := make([]int, workers)
	stretch := 5 + r.Intn(60)
	for n := range steps {
		if n%stretch == 0 {
			for i := range weights {
				weights[i] = r.Intn(11)
			}
		}
		if worker := r.Intn(workers); r.Intn(8) >= weights[worker] {
			q.step(worker)
		}
	}
}

// P15.4: many blocks, plans, numbers of workers and orders of steps.
func TestWhateverOrder(t *testing.T) {
	moved, together, early, many, few := 0, 0, 0, 0, 0
	for seed := range int64(3000) {
		r := rand.New(rand.NewSource(seed))
		x := drawn(r, 1+r.Intn(120), 1+r.Intn(1+r.Intn(30)), r.Intn(101))
		a := drawnArgs(r, x)
		if seed%3 > 0 {
			a.waste = r.Intn(4)
		}
		q := begun(t, x, a, 1+r.Intn(7))
		q.what = fmt.Sprint("seed ", seed, ": ", q.what)
		q.atRandom(r, r.Intn(400))
		if q.slide.Done() {
			early++
		}
		q.finish()
		if !slices.Equal(q.before, all(q.heap)) {
			moved++
		}
		if q.most > 1 {
			together++
		}
		if len(q.p.Live) > len(q.model.workers) {
			many++
		} else {
			few++
		}
	}
	same(t, "in many words were moved", moved > 1500, true)
	same(t, "in many several worked together", together > 300, true)
	same(t, "many ended at random", early > 300, true)
	same(t, "many had more regions than workers", many > 1000, true)
	same(t, "many had fewer", few > 300, true)
}

// P15.4: all small rows in all regions, by turns and by one behind the other.
func TestSmallRows(t *testing.T) {
	for _, x := range allRows(6) {
		for region := 1; region <= 4; region++ {
			for waste := range 3 {
				q := begun(t, x, args{0, 6, region, waste}, 3)
				q.finish()
				q = begun(t, x, args{0, 6, region, waste}, 2)
				for range 4 {
					q.step(1)
				}
				for range q.work() {
					q.step(0)
				}
				q.finish()
			}
		}
	}
}

// every does a play once for each order in which n things may be picked so
// many times.
func every(n, picks int, play func(order []int)) {
	order := make([]int, picks)
	for {
		play(order)
		at := picks - 1
		for ; at >= 0 && order[at] == n-1; at-- {
			order[at] = 0
		}
		if at < 0 {
			return
		}
		order[at]++
	}
}

// P15.4: every order in which workers may begin on a small heap.
func TestEveryOrder(t *testing.T) {
	for _, x := range []struct{ workers, picks int }{{2, 11}, {3, 7}} {
		for _, region := range []int{1, 2, 3} {
			every(x.workers, x.picks, func(order []int) {
				q := begun(t, row{10, []block{{2, 1}, {5, 2}, {8, 1}}}, args{1, 10, region, 0}, x.workers)
				q.what = fmt.Sprint(order, ": ", q.what)
				for _, worker := range order {
					q.step(worker)
				}
				q.finish()
			})
		}
	}
}

// P15.4: workers are stopped wherever they may be while the last one goes on as
// far as it can.
func TestStoppedAnywhere(t *testing.T) {
	apartRow, apartArgs := apart()
	for _, x := range []struct {
		row
		args
	}{{apartRow, apartArgs}, {apartRow, args{0, 24, 2, 0}}, {example(), args{1, 21, 2, 0}}, {example(), args{0, 30, 3, 1}}} {
		for first := range 12 {
			for second := range 12 {
				q := begun(t, x.row, x.args, 3)
				for range first {
					q.step(0)
				}
				for range second {
					q.step(1)
				}
				for range q.work() {
					q.step(2)
				}
				q.finish()
			}
		}
	}
}

// P15.4: as many workers as may be, by turns, each within as many steps as one
// alone would have.
func TestManyWorkers(t *testing.T) {
	for seed := range int64(120) {
		r := rand.New(rand.NewSource(seed))
		x := drawn(r, 50+r.Intn(200), 1+r.Intn(9), 10+r.Intn(60))
		a := drawnArgs(r, x)
		a.region, a.waste = 1+r.Intn(6), r.Intn(4)
		q := begun(t, x, a, 64)
		q.finish()
	}
}

// P15.4: a great heap, in regions of each size; what is told of it stays right,
// and it takes no long time.
func TestGreatHeap(t *testing.T) {
	for _, size := range []int{1, 3, 1500, 40000} {
		x := row{words: api.MaxWords}
		for at := 7; at+size <= x.words; at += size + 1 {
			x.blocks = append(x.blocks, block{at, size})
		}
		for _, region := range []int{1, 100, api.MaxWords} {
			for _, workers := range []int{1, 64} {
				heap, b := x.heap(), x.bits(t)
				p := planned(t, b, args{0, x.words, region, 0})
				s, errno := slide.New(heap, b, p, workers)
				same(t, "New", errno, api.OK)
				what := fmt.Sprint("blocks of ", size, ", regions of ", region, ", ", workers, " workers")
				for n := 0; s.Step(n%workers) == api.Go; n++ {
				}
				same(t, what+": Done", s.Done(), true)
				same(t, what+": Moves", len(s.Moves()), len(x.blocks)*size)
				same(t, what+": accesses", heap.Steps(), 2*len(x.blocks)*size)
				words := all(heap)
				for i, live := range x.blocks {
					first, last := words[i*size], words[(i+1)*size-1]
					if first != wordAt(live.at) || last != wordAt(live.at+size-1) {
						t.Fatalf("%s: the block at %d came out as %d to %d", what, live.at, first, last)
					}
				}
				sameList(t, what+": Waits", s.Waits(), make([]int, len(p.Live))...)
			}
		}
	}
}

// P1: no step panics, or has more than one access, and all is stored, though
// others write into the heap and change the bits.
func TestOthersChangeIt(t *testing.T) {
	for seed := range int64(1500) {
		r := rand.New(rand.NewSource(seed))
		x := drawn(r, 1+r.Intn(100), 1+r.Intn(9), r.Intn(101))
		c := made(t, x, drawnArgs(r, x), 1+r.Intn(4))
		most := c.work() * len(c.model.workers)
		for n := 0; !c.slide.Done() && n <= most; n++ {
			before := c.heap.Steps()
			c.slide.Step(n % len(c.model.workers))
			if c.heap.Steps()-before > 1 {
				t.Fatalf("%s: a step had %d accesses", c.what, c.heap.Steps()-before)
			}
			at := r.Intn(x.words)
			switch r.Intn(9) {
			case 0:
				c.heap.Put(at, int64(r.Uint64()))
			case 1:
				c.bits.Mark(at, 1+r.Intn(5))
			case 2:
				c.bits.Clear([2]int{at, at + 1 + r.Intn(9)})
			case 3:
				c.bits.Clear()
			}
		}
		same(t, c.what+": Done", c.slide.Done(), true)
		same(t, c.what+": Moves", len(c.slide.Moves()), c.p.Top-c.p.Dense)
		if t.Failed() {
			return
		}
	}
}

// R4: the same calls have the same answers.
func TestSameAgain(t *testing.T) {
	told := func() string {
		r := rand.New(rand.NewSource(5))
		x := drawn(r, 200, 9, 50)
		q := begun(t, x, args{0, 200, 7, 3}, 4)
		q.atRandom(r, 150)
		return fmt.Sprint(all(q.heap), q.slide.Moves(), q.slide.Ready(), q.slide.Waits(), q.slide.Done())
	}
	for range 5 {
		same(t, "again", told(), told())
	}
}
