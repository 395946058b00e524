package collect_test

import (
	"fmt"
	"slices"
	"testing"

	"ballast/api"
	"ballast/collect"
)

// places are all words of a memory, and some far from that.
func places(words int) []int64 {
	l := []int64{1 << 32, 1 << 62, 1<<63 - 1, -1 << 63, -1 << 32}
	for at := range words + 5 {
		l = append(l, int64(at-2))
	}
	for at := int64(1); at < 10; at++ {
		l = append(l, 1<<32+at, -1<<32+at)
	}
	return l
}

// ahead holds what is told ahead of the end.
func (c *crew) ahead(p api.Plan, fault api.Errno) {
	c.t.Helper()
	what := fmt.Sprint(c.what, ", behind ", c.done, " steps, in phase ", c.collect.Phase())
	same(c.t, what+": Done", c.collect.Done(), false)
	same(c.t, what+": Fault", c.collect.Fault(), fault)
	sameList(c.t, what+": Roots", c.collect.Roots(), c.roots...)
	for _, at := range places(c.heap.Len()) {
		same(c.t, fmt.Sprint(what, ": Forward ", at), c.collect.Forward(at), 0)
	}
	same(c.t, what+": Freed", c.collect.Freed(), 0)
	samePlan(c.t, what+": Plan", c.collect.Plan(), p)
	if c.t.Failed() {
		c.t.FailNow()
	}
}

// P16.3: what is told ahead of the first step, in each phase, behind each step,
// and at the end.
func TestToldInEachPhase(t *testing.T) {
	for _, workers := range []int{1, 2, 3, 8} {
		g := gapped(t)
		g.roots = []int64{8, 0, 2, 20, 8}
		c := made(t, fmt.Sprint(workers, " workers"), g, g.how(4, 2, workers, 1, 1))
		made, p := g.plan(t, c.how), api.Plan{}
		c.ahead(p, api.OK)
		last := 0
		for n := 0; n < c.most(); n++ {
			if c.collect.Phase() == 1 && n%workers == 0 {
				p = made
			}
			c.step(n % workers)
			if c.collect.Done() {
				break
			}
			phase := c.collect.Phase()
			same(t, fmt.Sprint(c.what, ": from phase ", last, " to ", phase), phase == last || phase == last+1, true)
			last = phase
			c.ahead(p, api.OK)
		}
		for range 3 {
			same(t, c.what+": Done", c.collect.Done(), true)
			same(t, c.what+": Phase", c.collect.Phase(), 5)
			same(t, c.what+": Fault", c.collect.Fault(), api.OK)
			sameList(t, c.what+": Roots", c.collect.Roots(), 8-2, 0, 2, 20-7, 8-2)
			same(t, c.what+": Freed", c.collect.Freed(), 12)
			samePlan(t, c.what+": Plan", c.collect.Plan(), made)
			for _, at := range places(g.heap.Len()) {
				want := map[int64]int64{2: 2, 8: 6, 13: 10, 20: 13}[at]
				same(t, fmt.Sprint(c.what, ": Forward ", at), c.collect.Forward(at), want)
			}
			c.step(0)
		}
	}
}

// P16.3: Freed is what there is less, also where waste stays, and where nothing
// goes.
func TestFreed(t *testing.T) {
	for waste := range 16 {
		for region := 1; region <= 30; region++ {
			g := gapped(t)
			c := made(t, fmt.Sprint("waste ", waste, ", regions of ", region), g, g.how(region, waste, 2, 2, 1))
			b, p := g.bits(t), g.plan(t, c.how)
			wasted := p.Dense - 2 - b.Live(2, p.Dense)
			same(t, c.what+": wasted as may be", wasted <= waste, true)
			c.end()
			same(t, c.what, c.collect.Freed(), 30-2-15-wasted)
			same(t, c.what+": the top", g.to(), 30-c.collect.Freed())
		}
	}
	for _, x := range []struct {
		roots []int64
		freed int
	}{{nil, 10}, {[]int64{0}, 10}, {[]int64{5}, 7}, {[]int64{1}, 3}, {[]int64{5, 1}, 3}} {
		g := example(t, x.roots...)
		c := made(t, fmt.Sprint("roots ", x.roots), g, g.how(4, 0, 2, 2, 1))
		c.end()
		same(t, c.what, c.collect.Freed(), x.freed)
		same(t, c.what+": the top", g.to(), 11-x.freed)
		g.heap.Put(0, 3)
		same(t, c.what+": it stays, whatever the top is later", c.collect.Freed(), x.freed)
	}
}

// P16.3: with a fault: Fault tells it once marking has come to it, and from
// then on; the rest is told as it was, and at the end Forward is at itself,
// whatever at is.
func TestToldWithAFault(t *testing.T) {
	for name, g := range wrongs(t) {
		h := g.copied()
		c := made(t, name, h, h.how(4, 50, 2, 2, 1))
		c.ahead(api.Plan{}, api.OK)
		for n := 0; c.collect.Phase() < 2; n++ {
			was := c.collect.Fault()
			c.step(n % 2)
			same(t, name+": it stays a fault", was == api.ErrHeap && c.collect.Fault() == api.OK, false)
			c.ahead(api.Plan{}, c.collect.Fault())
		}
		same(t, name+": Fault behind planning", c.collect.Fault(), api.ErrHeap)
		for n := 0; !c.collect.Done(); n++ {
			c.ahead(api.Plan{}, api.ErrHeap)
			c.step(n % 2)
		}
		for range 3 {
			same(t, name+": Done", c.collect.Done(), true)
			same(t, name+": Phase", c.collect.Phase(), 5)
			same(t, name+": Fault", c.collect.Fault(), api.ErrHeap)
			sameList(t, name+": Roots", c.collect.Roots(), h.roots...)
			same(t, name+": Freed", c.collect.Freed(), 0)
			samePlan(t, name+": Plan", c.collect.Plan(), api.Plan{})
			for _, at := range places(h.heap.Len()) {
				same(t, fmt.Sprint(name, ": Forward ", at), c.collect.Forward(at), at)
			}
			c.step(1)
		}
	}
}

// P16.3, P16.2: a wrong root is a fault as soon as it is come to, and one that
// leads out of the heap once that block is marked.
func TestFaultIsToldAtOnce(t *testing.T) {
	g := example(t, 8)
	c := made(t, "a filler", g, g.how(4, 0, 1, 2, 1))
	c.step(0)
	same(t, c.what, c.collect.Fault(), api.ErrHeap)
	same(t, c.what+": Phase", c.collect.Phase(), 0)

	g = wrongs(t)["an object behind the top"]
	c = made(t, "behind the top", g, g.how(4, 0, 1, 2, 1))
	c.step(0)
	same(t, c.what+": its header is read", c.collect.Fault(), api.OK)
	c.step(0)
	same(t, c.what+": it is marked", c.collect.Fault(), api.ErrHeap)
	same(t, c.what+": Phase", c.collect.Phase(), 0)
}

// P16.3: a fault is its collector's alone: once it is mended the same heap is
// collected by another one.
func TestFaultIsItsOwn(t *testing.T) {
	g := example(t, 5, 8)
	c := made(t, "a fault", g, g.how(4, 0, 2, 2, 1))
	c.end()
	same(t, c.what, c.collect.Fault(), api.ErrHeap)
	g.roots = []int64{5}
	other := made(t, "none", g, g.how(4, 0, 2, 2, 1))
	other.end()
	same(t, other.what, other.collect.Fault(), api.OK)
	same(t, other.what+": Freed", other.collect.Freed(), 7)
	same(t, "the first one still tells it", c.collect.Fault(), api.ErrHeap)
}

// P16.3: no call that tells is an access, or changes anything.
func TestTellingIsNoAccess(t *testing.T) {
	g := gapped(t)
	c := made(t, "telling", g, g.how(4, 2, 2, 2, 1))
	silent := made(t, "silent", gapped(t), c.how)
	for n := 0; !silent.collect.Done(); n++ {
		words, accesses := all(g.heap), g.heap.Steps()
		for range 3 {
			c.collect.Done()
			c.collect.Phase()
			c.collect.Fault()
			c.collect.Roots()
			c.collect.Forward(13)
			c.collect.Freed()
			c.collect.Plan()
		}
		sameList(t, "the heap", all(g.heap), words...)
		same(t, "accesses", g.heap.Steps(), accesses)
		c.step(n % 2)
		silent.step(n % 2)
		sameList(t, "the heap of who is not asked", all(silent.heap), all(g.heap)...)
	}
	same(t, "Done", c.collect.Done(), true)
	sameList(t, "Roots", c.collect.Roots(), silent.collect.Roots()...)
}

// spoiled writes over a plan's lists, within them and behind their ends.
func spoiled(p api.Plan) int {
	for i := range p.Live {
		p.Live[i], p.Ahead[i], p.Waits[i], p.Takes[i] = -7, 99, 3, [2]int{-7, 99}
	}
	live, ahead := append(p.Live, 5), append(p.Ahead, 5)
	waits, takes := append(p.Waits, 5), append(p.Takes, [2]int{5, 5})
	return len(live) + len(ahead) + len(waits) + len(takes)
}

// R3: what was told is the caller's own: it doesn't change later, and what is
// done to it, in whatever phase and behind the end, has no effect.
func TestToldIsTheCallersOwn(t *testing.T) {
	g, h := gapped(t), gapped(t)
	g.roots, h.roots = []int64{13, 2, 0}, []int64{13, 2, 0}
	c, quiet := made(t, "spoiled", g, g.how(4, 2, 2, 2, 1)), made(t, "quiet", h, g.how(4, 2, 2, 2, 1))
	for n := 0; n < 600; n++ {
		roots, p := c.collect.Roots(), c.collect.Plan()
		told := fmt.Sprint(roots, p)
		c.step(n % 2)
		quiet.step(n % 2)
		same(t, fmt.Sprint("what was told behind ", n, " steps"), fmt.Sprint(roots, p), told)
		spoiled(p)
		for i := range roots {
			roots[i] = 77
		}
		roots = append(roots, 78)
		sameList(t, "Roots", c.collect.Roots(), quiet.collect.Roots()...)
		samePlan(t, "Plan", c.collect.Plan(), quiet.collect.Plan())
		sameList(t, "the heap", all(g.heap), all(h.heap)...)
		for _, at := range places(g.heap.Len()) {
			same(t, fmt.Sprint("Forward ", at), c.collect.Forward(at), quiet.collect.Forward(at))
		}
		same(t, "what is left of it", roots[len(roots)-1], 78)
		if t.Failed() {
			return
		}
	}
	same(t, "Done", c.collect.Done(), true)
	sameList(t, "Roots", c.collect.Roots(), 10, 2, 0)
}

// R3: no two lists that are told share anything.
func TestToldListsAreTheirOwn(t *testing.T) {
	g := gapped(t)
	g.roots = []int64{13, 2, 0}
	c := made(t, "lists", g, g.how(4, 2, 1, 2, 1))
	for range 2 {
		roots, p := c.collect.Roots(), c.collect.Plan()
		told := fmt.Sprint(roots, p)
		other := c.collect.Roots()
		other[0], other[1] = 5, 5
		spoiled(c.collect.Plan())
		same(t, "what was told ahead of that", fmt.Sprint(roots, p), told)
		ahead, waits := slices.Clone(p.Ahead), slices.Clone(p.Waits)
		for i := range p.Live {
			p.Live[i], p.Takes[i] = -4, [2]int{-4, -4}
		}
		sameList(t, "Ahead", p.Ahead, ahead...)
		sameList(t, "Waits", p.Waits, waits...)
		c.end()
	}
}

// tellsNothing holds what a collector tells that is none.
func tellsNothing(t *testing.T, c *collect.Collector) {
	t.Helper()
	for range 2 {
		for _, worker := range append(far(), 0, 1, 63) {
			same(t, fmt.Sprint("Step ", worker), c.Step(worker), api.End)
		}
		same(t, "Done", c.Done(), true)
		same(t, "Phase", c.Phase(), 5)
		same(t, "Fault", c.Fault(), api.ErrArg)
		same(t, "Roots", len(c.Roots()), 0)
		for _, at := range places(9) {
			same(t, fmt.Sprint("Forward ", at), c.Forward(at), 0)
		}
		same(t, "Freed", c.Freed(), 0)
		samePlan(t, "Plan", c.Plan(), api.Plan{})
	}
}

// The chapter's nil collector, at each call; P1: a zero one is as none; R2: so
// is what comes with an error.
func TestNone(t *testing.T) {
	tellsNothing(t, nil)
	tellsNothing(t, &collect.Collector{})
	g := example(t)
	c, errno := collect.New(g.heap, classList(), 0, api.Collect{}, 5)
	same(t, "New", errno, api.ErrArg)
	tellsNothing(t, c)
	g.heap.Put(5, 0)
	c, errno = collect.New(g.heap, classList(), 0, usual(), 5)
	same(t, "New", errno, api.ErrHeap)
	tellsNothing(t, c)
}
