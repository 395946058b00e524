package collect_test

import (
	"fmt"
	"math/rand"
	"slices"
	"testing"

	"ballast/adjust"
	"ballast/api"
	"ballast/bits"
	"ballast/blocks"
	"ballast/cells"
	"ballast/classes"
	"ballast/gang"
	"ballast/mark"
	"ballast/plan"
	"ballast/slide"
)

// The chapter's examples, by each number of workers.
func TestExample(t *testing.T) {
	for workers := 1; workers <= 64; workers++ {
		for _, x := range []struct {
			roots, turned []int64
			freed         int
			walked        []api.Block
		}{
			{[]int64{5}, []int64{1}, 7, []api.Block{{At: 1, Class: 3, Len: 2, Size: 3}}},
			{[]int64{1, 5}, []int64{1, 5}, 3, []api.Block{{At: 1, Class: 1, Len: 0, Size: 4}, {At: 5, Class: 3, Len: 2, Size: 3}}},
		} {
			g := example(t, x.roots...)
			c := made(t, fmt.Sprint(workers, " workers, roots ", x.roots), g, g.how(4, 0, workers, 2, 1))
			c.end()
			sameList(t, c.what+": Roots", c.collect.Roots(), x.turned...)
			same(t, c.what+": Freed", c.collect.Freed(), x.freed)
			walked, errno := blocks.Walk(g.heap, classList(), 1, g.to())
			same(t, c.what+": Walk", errno, api.OK)
			sameList(t, c.what+": the heap", walked, x.walked...)
			same(t, c.what+": Fault", c.collect.Fault(), api.OK)
		}
	}
}

// mirror is what P16.2 says, by the layers below alone: their workers are
// stepped on the same heap in a memory of its own.
type mirror struct {
	ground
	how     api.Collect
	bits    *bits.Bits
	control *cells.Cells
	gang    *gang.Gang
	mark    *mark.Marker
	adjust  *adjust.Adjuster
	slide   *slide.Slider
	plan    api.Plan
	wrong   bool
}

func mirrored(t *testing.T, g ground, how api.Collect) *mirror {
	t.Helper()
	m := &mirror{ground: g.copied(), how: how, bits: bits.New(g.heap.Len()), control: cells.New(mark.Need(how.Workers, how.Cap, how.Over))}
	m.gang, _ = gang.New(how.Workers)
	var errno api.Errno
	m.mark, errno = mark.New(m.heap, classList(), m.bits, m.control, how.Workers, how.Cap, how.Over)
	if errno != api.OK {
		t.Fatalf("mark.New %+v: %v", how, errno)
	}
	m.mark.Root(g.roots...)
	return m
}

func (m *mirror) step(worker int) {
	if !m.gang.Goes(worker) || m.gang.Phase() == 5 {
		return
	}
	arrives := true
	switch phase := m.gang.Phase(); {
	case phase == 0:
		arrives = m.mark.Step(worker) == api.End
	case phase == 1 && worker == 0:
		m.makePlan()
	case phase == 2 && !m.wrong:
		arrives = m.adjust.Step(worker) == api.End
	case phase == 3 && !m.wrong:
		arrives = m.slide.Step(worker) == api.End
	case phase == 4 && worker == 0 && !m.wrong:
		for _, gap := range plan.Gaps(m.plan, m.bits) {
			blocks.Fill(m.heap, gap[0], gap[1])
		}
		m.heap.Store(m.top, int64(m.plan.Top))
	}
	if arrives {
		m.gang.Arrive(worker)
	}
}

func (m *mirror) makePlan() {
	var errno api.Errno
	for at := range m.heap.Len() {
		m.wrong = m.wrong || m.bits.Has(at) && (at < m.from || at >= m.to())
	}
	m.wrong = m.wrong || m.mark.Fault() != api.OK
	if m.wrong {
		return
	}
	m.plan, errno = plan.Make(m.bits, m.from, m.to(), m.how.Region, m.how.Waste)
	if errno != api.OK {
		m.plan, m.wrong = api.Plan{}, true
		return
	}
	m.adjust, _ = adjust.New(m.heap, classList(), m.bits, m.plan, cells.New(1), m.how.Workers)
	m.slide, _ = slide.New(m.heap, m.bits, m.plan, m.how.Workers)
}

// P16.2: each step is a step of the layers below, with the same accesses of the
// heap, and the same words in it; who has ended there has arrived, and goes on
// when all have; so in right heaps and in wrong ones, in any order.
func TestStepsAreTheLayersSteps(t *testing.T) {
	wrong, outside := 0, 0
	for seed := range int64(1200) {
		r := rand.New(rand.NewSource(seed))
		g := grown(t, r, 90)
		switch seed % 6 {
		case 0:
			for range 1 + r.Intn(3) {
				g.roots = append(g.roots, anyWord(r, g.heap.Len()))
			}
		case 1:
			if at := g.to() + r.Intn(4); at < g.heap.Len() {
				g.heap.Put(at, classes.Header(bare, 0))
				g.roots = append(g.roots, int64(at))
			}
		}
		for len(g.roots) > g.heap.Len() {
			g.roots = g.roots[1:]
		}
		how := g.how(1+r.Intn(20), r.Intn(20), 1+r.Intn(5), 1+r.Intn(3), r.Intn(3))
		c := made(t, fmt.Sprint("seed ", seed), g, how)
		m := mirrored(t, g, how)
		lame := r.Intn(how.Workers)
		for n := 0; !c.collect.Done(); n++ {
			worker := n % how.Workers
			if n < 2000 {
				worker = r.Intn(how.Workers)
			}
			if worker == lame && r.Intn(3) > 0 {
				continue
			}
			c.step(worker)
			m.step(worker)
			if c.heap.Steps() != m.heap.Steps() || c.collect.Phase() != m.gang.Phase() || !slices.Equal(all(c.heap), all(m.heap)) {
				t.Fatalf("%s, step %d: %d accesses, phase %d, the heap %v, want %d, %d, %v", c.what, n, c.heap.Steps(), c.collect.Phase(), all(c.heap), m.heap.Steps(), m.gang.Phase(), all(m.heap))
			}
		}
		same(t, c.what+": Fault", c.collect.Fault() == api.ErrHeap, m.wrong)
		samePlan(t, c.what+": Plan", c.collect.Plan(), m.plan)
		if m.wrong {
			wrong++
			if m.mark.Fault() == api.OK {
				outside++
			}
		}
		if t.Failed() {
			return
		}
	}
	same(t, "many were wrong", wrong > 150, true)
	same(t, "some but for what was marked", outside > 40, true)
	same(t, "many were right", wrong < 1000, true)
}

// P16.2: in phase 1 worker 0 plans in its one step, the others do nothing in
// theirs; whoever comes first.
func TestPlanning(t *testing.T) {
	for _, order := range [][]int{{0, 1, 2}, {0, 2, 1}, {1, 0, 2}, {1, 2, 0}, {2, 0, 1}, {2, 1, 0}, {1, 1, 2, 1, 2, 0}, {0, 0, 0, 1, 0, 1, 2}} {
		g := example(t, 5)
		c := made(t, fmt.Sprint(order), g, g.how(4, 0, 3, 2, 1))
		c.reach(t)
		c.until(1)
		want, words, accesses := api.Plan{}, all(g.heap), g.heap.Steps()
		for i, worker := range order {
			samePlan(t, c.what+": Plan", c.collect.Plan(), want)
			same(t, c.what+": Phase", c.collect.Phase(), 1)
			c.step(worker)
			if worker == 0 {
				want = c.ground.plan(t, c.how)
			}
			samePlan(t, fmt.Sprint(c.what, ": Plan behind ", i+1), c.collect.Plan(), want)
		}
		same(t, c.what+": Phase behind it", c.collect.Phase(), 2)
		same(t, c.what+": accesses", g.heap.Steps(), accesses)
		sameList(t, c.what+": the heap", all(g.heap), words...)
	}
}

// gapped is a ground with several gaps, of which some stay: the blocks at 2, 8,
// 13 and 20 live, those between and behind don't.
func gapped(t *testing.T) ground {
	t.Helper()
	g := laid(t, 40, 1, 2, [2]int{knot, 0}, [2]int{bare, 0}, [2]int{filler, 0}, [2]int{bare, 0}, [2]int{pair, 0}, [2]int{filler, 0},
		[2]int{arrayOfWords, 2}, [2]int{arrayOfRefs, 3}, [2]int{arrayOfRefs, 4}, [2]int{pair, 0}, [2]int{bare, 0})
	g.heap.Put(3, 8, 1)
	g.heap.Put(9, 20, 13, 5)
	g.heap.Put(14, 6, 7)
	g.heap.Put(21, 2, 0, 20, 13)
	g.roots = []int64{2}
	g.reach(t)
	sameList(t, "gapped: reached", g.reached, 2, 8, 13, 20)
	same(t, "gapped: the top", g.to(), 30)
	return g
}

// P16.2: in phase 4 worker 0 fills all gaps and stores the top, in its one
// step, with one access; the others do nothing in theirs; whoever comes first.
func TestPuttingInOrder(t *testing.T) {
	gaps := map[int]int{}
	for waste := range 30 {
		for region := 1; region <= 30; region += 3 {
			for _, order := range [][]int{{0, 1, 2}, {1, 2, 0}, {2, 0, 1}, {1, 1, 2, 2, 1, 0}, {0, 0, 2, 0, 1}} {
				g := gapped(t)
				c := made(t, fmt.Sprint("waste ", waste, ", regions of ", region, ", ", order), g, g.how(region, waste, 3, 2, 1))
				p := g.plan(t, c.how)
				l := plan.Gaps(p, g.bits(t))
				gaps[len(l)]++
				c.until(4)
				want := all(g.heap)
				for i, worker := range order {
					sameList(t, fmt.Sprint(c.what, ": the heap behind ", i), all(g.heap), want...)
					same(t, c.what+": Phase", c.collect.Phase(), 4)
					accesses, first := g.heap.Steps(), worker == 0 && c.taken[4][0] == 0
					c.step(worker)
					if first {
						for _, gap := range l {
							for at := gap[0]; at < gap[1]; at++ {
								want[at] = 0
							}
							want[gap[0]] = classes.Header(filler, gap[1]-gap[0]-1)
						}
						want[1] = int64(p.Top)
						accesses++
					}
					same(t, c.what+": accesses", g.heap.Steps(), accesses)
				}
				same(t, c.what+": Done", c.collect.Done(), true)
				sameList(t, c.what+": the heap at the end", all(g.heap), want...)
				if t.Failed() {
					return
				}
			}
		}
	}
	for n := range 4 {
		same(t, fmt.Sprint("some had ", n, " gaps"), gaps[n] > 0, true)
	}
}

// P16.2: each phase takes a step of each worker at least, and phases 1 and 4
// just one: by turns, and where one comes last in each phase; with nothing to do, too.
func TestAStepOfEachWorkerInEachPhase(t *testing.T) {
	for _, workers := range []int{1, 2, 3, 7, 64} {
		for name, g := range map[string]func() ground{
			"the example":  func() ground { return example(t, 1) },
			"nothing":      func() ground { return laid(t, 1, 0, 1) },
			"nothing live": func() ground { return example(t) },
			"all stays":    func() ground { g := laid(t, 5, 0, 1, [2]int{bare, 0}); g.roots = []int64{1}; return g },
			"a fault":      func() ground { return example(t, 8) },
		} {
			c := made(t, fmt.Sprint(workers, " workers, ", name), g(), usual())
			c.how.Workers = workers
			c = made(t, c.what, c.ground, c.how)
			c.end()
			for phase, steps := range c.taken {
				for worker, n := range steps {
					if n < 1 || (phase == 1 || phase == 4) && n > 1 {
						t.Errorf("%s: worker %d had %d steps in phase %d", c.what, worker, n, phase)
					}
				}
			}
			last := workers / 2
			c = made(t, c.what+", one of them last", g(), c.how)
			for phase := range 5 {
				for range 400 {
					for worker := range workers {
						if worker != last {
							c.step(worker)
						}
					}
				}
				same(t, c.what+": Phase", c.collect.Phase(), phase)
				for n := 0; c.collect.Phase() == phase && n < 400; n++ {
					for worker := range workers {
						if c.collect.Phase() == phase {
							c.step((worker + last) % workers)
						}
					}
				}
			}
			same(t, c.what+": Done", c.collect.Done(), true)
		}
	}
}

// P16.2: who has arrived does nothing by its steps, which tell Go.
func TestWhoHasArrivedWaits(t *testing.T) {
	g := example(t, 5)
	c := made(t, "waiting", g, g.how(4, 0, 2, 2, 1))
	waits := func(worker int) {
		t.Helper()
		words, accesses, phase := all(g.heap), g.heap.Steps(), c.collect.Phase()
		for range 20 {
			same(t, fmt.Sprint("phase ", phase, ": a step"), c.step(worker), api.Go)
		}
		sameList(t, "the heap", all(g.heap), words...)
		same(t, "accesses", g.heap.Steps(), accesses)
		same(t, "Phase", c.collect.Phase(), phase)
	}
	c.until(1)
	for phase := 1; phase < 5; phase++ {
		same(t, "Phase", c.collect.Phase(), phase)
		for range 200 {
			c.step(0)
		}
		if phase != 0 {
			waits(0)
		}
		for n := 0; c.collect.Phase() == phase && n < 200; n++ {
			c.step(1)
		}
	}
	same(t, "Done", c.collect.Done(), true)
	sameList(t, "Roots", c.collect.Roots(), 1)
}

// P16.2: a step of who isn't there, and each one behind the end, does nothing,
// and tells End.
func TestStepOfNobody(t *testing.T) {
	g := gapped(t)
	c := made(t, "nobody", g, g.how(4, 0, 3, 2, 1))
	nothing := func(what string, workers ...int) {
		t.Helper()
		words, accesses, phase := all(g.heap), g.heap.Steps(), c.collect.Phase()
		for _, worker := range workers {
			same(t, fmt.Sprint(what, ": Step ", worker), c.collect.Step(worker), api.End)
		}
		sameList(t, what+": the heap", all(g.heap), words...)
		same(t, what+": accesses", g.heap.Steps(), accesses)
		same(t, what+": Phase", c.collect.Phase(), phase)
	}
	none := append(far(), -2, 3, 4, 63, 64, 65)
	nothing("at first", none...)
	for n := 0; !c.collect.Done() && n < 5000; n++ {
		c.step(n % 3)
		nothing(fmt.Sprint("behind ", n+1), none...)
	}
	nothing("at the end", append(none, 0, 1, 2, 0, 0, 1, 1, 2, 2)...)
	same(t, "Done", c.collect.Done(), true)
	same(t, "Phase", c.collect.Phase(), 5)
}

// wrongs are grounds in which something is marked that is none of the heap's,
// or a ref leads to no object.
func wrongs(t *testing.T) map[string]ground {
	t.Helper()
	rooted := func(g ground, roots ...int64) ground {
		g.roots = roots
		return g
	}
	put := func(g ground, at int, l ...int64) ground {
		g.heap.Put(at, l...)
		return g
	}
	ahead := func() ground { // objects ahead of From, and behind the top
		g := laid(t, 30, 0, 10, [2]int{knot, 0}, [2]int{filler, 3}, [2]int{pair, 0})
		blocks.Lay(g.heap, classList(), 4, bare, 0)
		blocks.Lay(g.heap, classList(), 21, bare, 0)
		blocks.Lay(g.heap, classList(), 26, knot, 0)
		same(t, "ahead: the top", g.to(), 21)
		return g
	}
	return map[string]ground{
		"a root to a filler":                     rooted(example(t), 8),
		"a root within an object":                rooted(example(t), 5, 3),
		"a root to no header":                    rooted(example(t), 1, 15),
		"a root to no cell":                      rooted(example(t), 20),
		"a root below 0":                         rooted(example(t), -1, 0),
		"a root far below 0":                     rooted(example(t), -1<<63),
		"a root far behind":                      rooted(example(t), 1<<63-1),
		"a root that is one modulo 2^32":         rooted(example(t), 1<<32+1),
		"a reference to a filler":                rooted(put(example(t), 3, 8), 1),
		"a reference within an object":           rooted(put(example(t), 2, 4), 1),
		"a reference below 0":                    rooted(put(example(t), 2, -5), 1),
		"a reference far behind":                 rooted(put(example(t), 2, 1<<40), 1),
		"a root to the top":                      rooted(example(t), 11),
		"an object's own word, and that object":  rooted(put(example(t), 6, classes.Header(bare, 0)), 6, 5),
		"that object ahead of its own word":      rooted(put(example(t), 6, classes.Header(bare, 0)), 5, 6),
		"an object ahead of From":                rooted(ahead(), 4),
		"an object just ahead of From":           rooted(put(ahead(), 9, classes.Header(bare, 0)), 9),
		"an object just behind the top":          rooted(ahead(), 21),
		"an object behind the top":               rooted(ahead(), 26),
		"a reference ahead of From":              rooted(put(ahead(), 11, 4), 10),
		"a reference behind the top":             rooted(put(ahead(), 18, 21), 17),
		"one that begins ahead, ends in":         rooted(put(ahead(), 9, classes.Header(arrayOfWords, 3)), 9),
		"one that begins in, ends behind":        rooted(put(ahead(), 20, classes.Header(arrayOfWords, 3)), 20),
		"one that begins ahead, ends behind":     rooted(put(ahead(), 9, classes.Header(arrayOfWords, 15)), 9),
		"one that ends where the heap begins":    rooted(put(ahead(), 8, classes.Header(arrayOfWords, 1)), 8),
		"an object behind a heap without words":  rooted(put(laid(t, 5, 0, 2), 3, classes.Header(bare, 0)), 3),
		"the reference of one behind the top":    rooted(put(ahead(), 27, 10), 26),
		"one of the heap, and one behind it":     rooted(ahead(), 10, 17, 21),
		"one of a filler's words, but no object": rooted(put(ahead(), 14, classes.Header(filler, 0)), 14),
	}
}

// P16.2: with a fault of marking, with a block that is marked outside of the
// heap, and where it can't be planned, phases 1 to 4 do nothing, by one step of
// each worker, and Fault tells ErrHeap.
func TestFaults(t *testing.T) {
	for name, g := range wrongs(t) {
		for _, workers := range []int{1, 2, 5} {
			for _, waste := range []int{0, 3, 100} {
				h := g.copied()
				c := made(t, fmt.Sprint(name, ", ", workers, " workers, waste ", waste), h, h.how(3, waste, workers, 2, 1))
				words := all(h.heap)
				c.until(1)
				accesses := h.heap.Steps()
				c.end()
				same(t, c.what+": Fault", c.collect.Fault(), api.ErrHeap)
				same(t, c.what+": accesses behind marking", h.heap.Steps(), accesses)
				sameList(t, c.what+": the heap", all(h.heap), words...)
				for phase := 1; phase < 5; phase++ {
					sameList(t, fmt.Sprint(c.what, ": steps of phase ", phase), c.taken[phase], slices.Repeat([]int{1}, workers)...)
				}
				samePlan(t, c.what+": Plan", c.collect.Plan(), api.Plan{})
				sameList(t, c.what+": Roots", c.collect.Roots(), h.roots...)
				same(t, c.what+": Freed", c.collect.Freed(), 0)
				same(t, c.what+": Done", c.collect.Done(), true)
			}
		}
	}
}

// P16.2: what isn't reached is no fault, whatever it refers to, and neither is
// a block within another one, as long as that one is not marked.
func TestNoFaults(t *testing.T) {
	for name, x := range map[string]struct {
		roots, words []int64
		at           int
	}{
		"an unreached reference":           {[]int64{5}, []int64{9, -1}, 2},
		"none at all":                      {nil, []int64{9, -1}, 2},
		"0 alone":                          {[]int64{0, 0, 0}, []int64{9, -1}, 2},
		"one root twice":                   {[]int64{5, 5, 1, 5, 1}, nil, 2},
		"two references to one":            {[]int64{1}, []int64{5, 5}, 2},
		"a header among an object's words": {[]int64{5}, []int64{classes.Header(pair, 0)}, 6},
		"a root to that, alone":            {[]int64{6}, []int64{classes.Header(bare, 0)}, 6},
	} {
		g := example(t, x.roots...)
		g.heap.Put(x.at, x.words...)
		c := made(t, name, g, g.how(4, 0, 2, 2, 1))
		c.end()
		same(t, name+": Fault", c.collect.Fault(), api.OK)
		_, errno := blocks.Walk(g.heap, classList(), 1, g.to())
		same(t, name+": Walk", errno, api.OK)
	}
}
