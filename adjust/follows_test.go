package adjust_test

import (
	"fmt"
	"math/rand"
	"slices"
	"testing"

	"ballast/adjust"
	"ballast/api"
	"ballast/bits"
	"ballast/blocks"
	"ballast/cells"
	"ballast/classes"
)

// grown is a heap by chance, of at most so many words: blocks from a word on up
// to another one, most of them marked, with words around them.
func grown(t *testing.T, r *rand.Rand, most int) (ground, int, int) {
	t.Helper()
	from, behind := r.Intn(4), r.Intn(4)
	g := laid(t, from+r.Intn(most)+behind)
	for at := range g.heap.Len() {
		g.heap.Put(at, anyWord(r, g.heap.Len()))
	}
	to := g.heap.Len() - behind
	for at := from; at < to; {
		class := []int{filler, pair, pair, arrayOfRefs, arrayOfRefs, arrayOfWords, bare, knot, word}[r.Intn(9)]
		length := 0
		if class == filler || class == arrayOfRefs || class == arrayOfWords {
			length = r.Intn(7)
		}
		size, errno := classes.Size(classList(), class, length)
		if errno != api.OK || size > to-at {
			blocks.Fill(g.heap, at, to)
			break
		}
		blocks.Lay(g.heap, classList(), at, class, length)
		if class != filler && r.Intn(4) > 0 {
			g.mark(t, at, size)
		}
		at += size
	}
	return g, from, to
}

// marked is where marked blocks begin.
func (g ground) marked() []int {
	var l []int
	for at := range g.heap.Len() {
		if g.bits.Has(at) {
			l = append(l, at)
		}
	}
	return l
}

// tangled gives words to all marked blocks: references to one another or to
// none, and now and then, if faults may be, to anything; what is no reference
// looks like one.
func (g ground) tangled(r *rand.Rand, faults bool) {
	marked := g.marked()
	for _, at := range marked {
		for place := at + 1; place < at+g.bits.Size(at); place++ {
			ref := int64(marked[r.Intn(len(marked))])
			switch n := r.Intn(12); {
			case n == 0:
				ref = 0
			case n == 1 && faults:
				ref = anyWord(r, g.heap.Len())
			}
			g.heap.Put(place, ref)
		}
	}
}

// anyWord is a word of a heap of so many words: often a header, or a place.
func anyWord(r *rand.Rand, words int) int64 {
	switch r.Intn(8) {
	case 0, 1:
		return classes.Header(r.Intn(8), []int{0, 0, 0, 1, 3, 8}[r.Intn(6)])
	case 2, 3, 4, 5:
		return int64(r.Intn(words + 2))
	case 6:
		return 0
	}
	return int64(r.Uint64())
}

// play is a crew with what is to come of its heap.
type play struct {
	*crew
	before, want []int64
	last         []int64 // as it was seen
	faults       bool
	most         int // steps that each worker may have by turns
}

func begun(t *testing.T, what string, g ground, p api.Plan, workers int) *play {
	t.Helper()
	q := &play{crew: made(t, what, g, p, workers), before: all(g.heap), last: all(g.heap), want: all(g.heap)}
	q.most = 10 + 4*q.work()
	for at := p.From; at < p.To; at++ {
		if !g.bits.Has(at) {
			continue
		}
		for _, place := range refsAt(q.before, at) {
			ref := q.before[place]
			q.want[place] = forward(g.bits, p, ref)
			if ref != 0 && (ref < 0 || ref >= int64(g.heap.Len()) || !g.bits.Has(int(ref))) {
				q.faults = true
			}
		}
	}
	return q
}

// step holds P14.4 at each step: at most one word is changed, and it is then
// what it is to be, and was what it was at first.
func (q *play) step(worker int) int {
	q.t.Helper()
	told := q.crew.Step(worker)
	now := all(q.heap)
	changed := 0
	for at, w := range now {
		if w == q.last[at] {
			continue
		}
		changed++
		if w != q.want[at] || q.last[at] != q.before[at] {
			q.t.Fatalf("%s: the word %d was %d, then %d, and is %d; it is to be %d", q.what, at, q.before[at], q.last[at], w, q.want[at])
		}
	}
	if changed > 1 {
		q.t.Fatalf("%s: a step of worker %d has changed %d words", q.what, worker, changed)
	}
	q.last = now
	return told
}

// finish goes by turns. P14.4: each worker ends within so many steps; in the
// end each reference is turned, and no other word is changed.
func (q *play) finish() {
	q.t.Helper()
	for n := 0; !q.Done(); n++ {
		if n == q.most {
			q.t.Fatalf("%s: not all have ended within %d steps each", q.what, n)
		}
		for worker := range q.workers {
			q.step(worker)
		}
	}
	q.holds()
}

func (q *play) holds() {
	q.t.Helper()
	sameList(q.t, q.what+": the heap", all(q.heap), q.want...)
	want := api.OK
	if q.faults {
		want = api.ErrHeap
	}
	same(q.t, q.what+": Fault", q.Fault(), want)
	if q.t.Failed() {
		q.t.FailNow()
	}
}

// atRandom does so many steps; a worker that the order favours less may be
// stopped in the midst for long.
func (q *play) atRandom(r *rand.Rand, steps int) {
	q.t.Helper()
	weights := make([]int, q.workers)
	stretch := 5 + r.Intn(60)
	for n := range steps {
		if n%stretch == 0 {
			for i := range weights {
				weights[i] = r.Intn(11)
			}
		}
		worker := r.Intn(q.workers)
		if r.Intn(8) >= weights[worker] {
			q.step(worker)
		}
	}
}

// P14.4: many heaps, plans, numbers of workers and orders of steps.
func TestEachReferenceIsTurnedOnce(t *testing.T) {
	moved, faults, early, many := 0, 0, 0, 0
	for seed := range int64(3000) {
		r := rand.New(rand.NewSource(seed))
		g, from, to := grown(t, r, 150)
		if len(g.marked()) > 0 {
			g.tangled(r, seed%3 == 0)
		}
		p := g.plan(t, from, to, 1+r.Intn(40), r.Intn(30))
		q := begun(t, fmt.Sprint("seed ", seed), g, p, 1+r.Intn(7))
		q.atRandom(r, r.Intn(700))
		if q.Done() {
			early++
			q.holds()
		}
		q.finish()
		if !slices.Equal(q.before, q.want) {
			moved++
		}
		if q.faults {
			faults++
		}
		if len(p.Live) > q.workers {
			many++
		}
	}
	same(t, "in many words were changed", moved > 1500, true)
	same(t, "some had faults", faults > 200, true)
	same(t, "many had none", faults < 1500, true)
	same(t, "many ended at random", early > 300, true)
	same(t, "many had more regions than workers", many > 1000, true)
}

// P14.4: by turns from the first step on: the bound of each worker's steps, by
// up to as many workers as may be.
func TestBoundByTurns(t *testing.T) {
	for seed := range int64(600) {
		r := rand.New(rand.NewSource(seed))
		g, from, to := grown(t, r, 120)
		if len(g.marked()) > 0 {
			g.tangled(r, seed%2 == 0)
		}
		workers := []int{1, 2, 3, 5, 17, 64}[seed%6]
		q := begun(t, fmt.Sprint("seed ", seed), g, g.plan(t, from, to, 1+r.Intn(30), r.Intn(20)), workers)
		q.finish()
	}
}

// P14.4: heaps that have nothing at all, or next to it, are within the bound,
// too.
func TestBoundOfLittle(t *testing.T) {
	for words := range 4 {
		for region := 1; region <= 4; region++ {
			for workers := 1; workers <= 64; workers += 9 {
				q := begun(t, fmt.Sprint(words, " words, regions of ", region, ", ", workers, " workers"), laid(t, words), api.Plan{To: words, Region: region}, workers)
				q.finish()
			}
		}
	}
}

// every does a play once for each order in which n things may be picked so
// many times.
func every(n, picks int, play func(order []int)) {
	order := make([]int, picks)
	for {
		play(order)
		at := picks - 1
		for ; at >= 0 && order[at] == n-1; at-- {
			order[at] = 0
		}
		if at < 0 {
			return
		}
		order[at]++
	}
}

// P14.4: every order in which workers may begin on a small heap.
func TestEveryOrder(t *testing.T) {
	for _, x := range []struct{ workers, picks int }{{2, 11}, {3, 7}} {
		for _, region := range []int{1, 3, 4, 9} {
			every(x.workers, x.picks, func(order []int) {
				g := laid(t, 12, block{2, knot, 0}, block{6, pair, 0}, block{11, bare, 0})
				g.heap.Put(3, 6)
				g.heap.Put(7, 11, 1)
				q := begun(t, fmt.Sprint("regions of ", region, ", ", order), g, g.plan(t, 1, 12, region, 0), x.workers)
				for _, worker := range order {
					q.step(worker)
				}
				q.finish()
			})
		}
	}
}

// P14.4: a worker is stopped wherever it may be while the others go on.
func TestStoppedAnywhere(t *testing.T) {
	for _, region := range []int{1, 2, 5, 7, 30} {
		for first := range 16 {
			for second := range 16 {
				g := knots(t, 4)
				g.heap.Put(5, 99)
				q := begun(t, fmt.Sprint("regions of ", region, ", ", first, " and ", second), g, g.plan(t, 0, 13, region, 0), 3)
				for range first {
					q.step(0)
				}
				for range second {
					q.step(1)
				}
				for n := 0; q.step(2) == api.Go && n < 100; n++ {
				}
				q.finish()
			}
		}
	}
}

// P14.4: one worker stands still for ever: all that it has not taken is turned
// by the others, and it alone is waited for.
func TestOneStandsStill(t *testing.T) {
	for seed := range int64(200) {
		r := rand.New(rand.NewSource(seed))
		g := knots(t, 8)
		q := begun(t, fmt.Sprint("seed ", seed), g, g.plan(t, 0, 25, 3, 0), 2+r.Intn(3))
		q.step(0)
		for n := 0; n < 60; n++ {
			for worker := 1; worker < q.workers; worker++ {
				q.step(worker)
			}
		}
		for worker := 1; worker < q.workers; worker++ {
			same(t, q.what+": another one", q.step(worker), api.End)
		}
		same(t, q.what+": Done", q.Done(), false)
		sameList(t, q.what+": all but the first region", turnedKnots(g), 1, 2, 3, 4, 5, 6, 7)
		q.finish()
	}
}

// P1, P14.4: whatever words stand in the heap and whatever plan there is: all
// end by turns, within the bound.
func TestWhateverStandsThere(t *testing.T) {
	for seed := range int64(1500) {
		r := rand.New(rand.NewSource(seed))
		g := laid(t, r.Intn(90))
		for at := range g.heap.Len() {
			g.heap.Put(at, anyWord(r, g.heap.Len()))
			if r.Intn(3) == 0 {
				g.bits.Mark(at, 1+r.Intn(6))
			}
		}
		from := r.Intn(g.heap.Len() + 1)
		p := api.Plan{From: from, To: from + r.Intn(g.heap.Len()-from+1), Region: 1 + r.Intn(20), Dense: r.Intn(100) - 5, Top: r.Intn(100) - 5}
		for range r.Intn(12) {
			p.Ahead = append(p.Ahead, r.Intn(90)-9)
		}
		c := made(t, fmt.Sprint("seed ", seed), g, p, 1+r.Intn(5))
		// Of headers that lie in one another's words each may be read behind
		// what the other has turned: what they say then is less than this.
		most := 10 + 4*(p.To-p.From)*(2+len(all(g.heap)))
		for n := 0; !c.Done() && n <= most; n++ {
			c.Step(n % c.workers)
		}
		same(t, c.what+": Done", c.Done(), true)
		if t.Failed() {
			return
		}
	}
}

// P1: no step panics, or has more than one access, though others write into
// heap and control, change bits, or one memory is both.
func TestOthersWriteThere(t *testing.T) {
	for seed := range int64(500) {
		r := rand.New(rand.NewSource(seed))
		g, from, to := grown(t, r, 80)
		c := made(t, fmt.Sprint("seed ", seed), g, g.plan(t, from, to, 1+r.Intn(20), r.Intn(10)), 1+r.Intn(3))
		if r.Intn(3) == 0 && g.heap.Len() > 0 {
			c.Adjuster, _ = adjust.New(g.heap, classList(), g.bits, c.p, g.heap, c.workers)
			c.control = cells.New(1)
		}
		for range 400 {
			c.Step(r.Intn(c.workers))
			for _, memory := range []*cells.Cells{g.heap, c.control} {
				if memory.Len() > 0 && r.Intn(9) == 0 {
					memory.Put(r.Intn(memory.Len()), anyWord(r, g.heap.Len()))
				}
			}
			switch at := r.Intn(g.heap.Len() + 1); r.Intn(20) {
			case 0:
				g.bits.Mark(at, 1+r.Intn(5))
			case 1:
				g.bits.Clear([2]int{at, at + 3})
			}
		}
	}
}

// R4: the same calls have the same answers.
func TestSameAgain(t *testing.T) {
	told := func() string {
		r := rand.New(rand.NewSource(5))
		g, from, to := grown(t, r, 200)
		g.tangled(r, true)
		q := begun(t, "again", g, g.plan(t, from, to, 7, 3), 4)
		q.atRandom(r, 100)
		return fmt.Sprint(all(q.heap), all(q.control), q.accesses(), q.Done(), q.Fault())
	}
	for range 5 {
		same(t, "again", told(), told())
	}
}

// P14.4: a heap as great as may be, in regions of each size.
func TestGreatHeap(t *testing.T) {
	for _, region := range []int{1, 100, api.MaxWords} {
		for _, workers := range []int{1, 64} {
			g := ground{cells.New(api.MaxWords), bits.New(api.MaxWords)}
			for at := 1; at+4 <= api.MaxWords; at += 5 {
				blocks.Lay(g.heap, classList(), at, pair, 0)
				g.mark(t, at, 4)
				g.heap.Put(at+1, int64(at), 1, int64(at))
			}
			p := g.plan(t, 0, api.MaxWords, region, 0)
			c := made(t, fmt.Sprint("regions of ", region, ", ", workers, " workers"), g, p, workers)
			c.end()
			for at, i := 1, 0; at+4 <= api.MaxWords; at, i = at+5, i+1 {
				if w := g.heap.Words(at+1, at+4); w[0] != int64(4*i) || w[1] != 0 || w[2] != int64(at) {
					t.Fatalf("%s: the words behind %d: %v", c.what, at, w)
				}
			}
			same(t, c.what+": Fault", c.Fault(), api.OK)
		}
	}
}
