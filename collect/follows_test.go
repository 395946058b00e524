package collect_test

import (
	"fmt"
	"math/rand"
	"slices"
	"testing"

	"ballast/api"
	"ballast/blocks"
	"ballast/cells"
	"ballast/classes"
)

// play is a crew with what its heap was at first.
type play struct {
	*crew
	before []int64
	was    int // the top
}

func begun(t *testing.T, what string, g ground, how api.Collect) *play {
	t.Helper()
	return &play{crew: made(t, what, g, how), before: all(g.heap), was: g.to()}
}

// finish goes by turns, and holds what comes of it.
func (p *play) finish() {
	p.t.Helper()
	p.end()
	p.holds()
}

// forward is Forward of a word, of which none is 0.
func (p *play) forward(ref int64) int64 {
	if ref == 0 {
		return 0
	}
	return p.collect.Forward(ref)
}

// holds is P16.4, word by word, and P16.3 at the end.
func (p *play) holds() {
	p.t.Helper()
	same(p.t, p.what+": Fault", p.collect.Fault(), api.OK)
	p.objects()
	p.lying()
	p.beside()
	var turned []int64
	for _, root := range p.roots {
		turned = append(turned, p.forward(root))
	}
	sameList(p.t, p.what+": Roots", p.collect.Roots(), turned...)
	same(p.t, p.what+": Freed", p.collect.Freed(), p.was-p.to())
	if p.t.Failed() {
		p.t.FailNow()
	}
}

// objects holds that all that is reached is where Forward says, in its order,
// and each of its words as it is to be; nothing else has gone anywhere.
func (p *play) objects() {
	p.t.Helper()
	now, last := all(p.heap), 0
	for _, at := range p.reached {
		to := int(p.collect.Forward(int64(at)))
		if to <= last || to > at {
			p.t.Fatalf("%s: %d has gone to %d, behind %d", p.what, at, to, last)
		}
		class, length, _ := classes.Parts(p.before[at])
		size, _ := classes.Size(classList(), class, length)
		for word := range size {
			want := p.before[at+word]
			if classes.Ref(classList(), class, length, word) {
				want = p.forward(want)
			}
			if now[to+word] != want {
				p.t.Fatalf("%s: the word %d of %d, which is at %d now: %d, want %d", p.what, word, at, to, now[to+word], want)
			}
		}
		last = to
	}
	for _, at := range places(p.heap.Len()) {
		if _, lives := slices.BinarySearch(p.reached, int(at)); !lives {
			same(p.t, fmt.Sprint(p.what, ": Forward ", at), p.collect.Forward(at), 0)
		}
	}
}

// lying holds that the heap can be read as blocks: what is reached and nothing
// else, without any gap from Dense on, and not more than may be wasted ahead of
// it, in fillers as great as may be.
func (p *play) lying() {
	p.t.Helper()
	walked, errno := blocks.Walk(p.heap, classList(), p.from, p.to())
	same(p.t, p.what+": Walk", errno, api.OK)
	dense, wasted, gap := p.collect.Plan().Dense, 0, false
	var objects []int
	for _, b := range walked {
		if b.Class != filler {
			objects = append(objects, b.At)
			gap = false
			continue
		}
		wasted += b.Size
		if b.At+b.Size > dense || gap {
			p.t.Errorf("%s: a filler from %d to %d, Dense is %d, behind another one: %v", p.what, b.At, b.At+b.Size, dense, gap)
		}
		gap = true
	}
	same(p.t, p.what+": wasted as may be", wasted <= p.how.Waste, true)
	var want []int
	for _, at := range p.reached {
		to := int(p.collect.Forward(int64(at)))
		if at < dense && to != at || at >= dense && to < dense {
			p.t.Errorf("%s: %d has gone to %d, Dense is %d", p.what, at, to, dense)
		}
		want = append(want, to)
	}
	sameList(p.t, p.what+": the objects", objects, want...)
}

// beside holds that no word outside of the heap is another one, but the top.
func (p *play) beside() {
	p.t.Helper()
	now := all(p.heap)
	for at, word := range p.before {
		if (at < p.from || at >= p.was) && at != p.top && now[at] != word {
			p.t.Errorf("%s: the word %d: %d, want %d", p.what, at, now[at], word)
		}
	}
}

// atRandom does so many steps; a worker that the order favours less may be
// stopped in the midst for long.
func (p *play) atRandom(r *rand.Rand, steps int) {
	p.t.Helper()
	weights := make([]int, p.how.Workers)
	stretch := 20 + r.Intn(300)
	for n := range steps {
		if p.collect.Done() {
			return
		}
		if n%stretch == 0 {
			for i := range weights {
				weights[i] = r.Intn(11)
			}
		}
		worker := r.Intn(p.how.Workers)
		if r.Intn(8) >= weights[worker] {
			p.step(worker)
		}
	}
}

// P16.4: many heaps, roots, ways to collect, numbers of workers and orders of
// steps.
func TestWhatFollows(t *testing.T) {
	moved, stayed, wasted, early, reached := 0, 0, 0, 0, 0
	for seed := range int64(3000) {
		r := rand.New(rand.NewSource(seed))
		g := grown(t, r, 160)
		p := begun(t, fmt.Sprint("seed ", seed), g, g.how(1+r.Intn(40), r.Intn(1+r.Intn(60)), 1+r.Intn(6), 1+r.Intn(3), r.Intn(3)))
		p.atRandom(r, r.Intn(5000))
		if p.collect.Done() {
			early++
		}
		p.finish()
		reached += len(g.reached)
		for _, at := range g.reached {
			if p.collect.Forward(int64(at)) == int64(at) {
				stayed++
			} else {
				moved++
			}
		}
		if p.collect.Plan().Dense > g.from && len(g.reached) > 0 {
			wasted++
		}
	}
	same(t, "much was reached", reached > 10000, true)
	same(t, "much has moved", moved > 5000, true)
	same(t, "much stayed", stayed > 2000, true)
	same(t, "many had something ahead of Dense", wasted > 500, true)
	same(t, "many ended at random", early > 500, true)
}

// P16.4: by turns from the first step on, by up to as many workers as may be,
// who begin anywhere: the bound.
func TestBoundByTurns(t *testing.T) {
	for seed := range int64(500) {
		r := rand.New(rand.NewSource(seed))
		g := grown(t, r, 100)
		workers := []int{1, 2, 3, 5, 17, 64}[seed%6]
		p := begun(t, fmt.Sprint("seed ", seed, ", ", workers, " workers"), g, g.how(1+r.Intn(30), r.Intn(20), workers, 1+r.Intn(3), r.Intn(3)))
		p.finish()
	}
}

// P16.4: heaps that have nothing at all, or next to it, are within the bound,
// too.
func TestBoundOfLittle(t *testing.T) {
	for bares := range 4 {
		for region := 1; region <= 4; region++ {
			for workers := 1; workers <= 64; workers += 9 {
				for live := range bares + 1 {
					g := laid(t, 1+bares, 0, 1, slices.Repeat([][2]int{{bare, 0}}, bares)...)
					if live > 0 {
						g.roots = []int64{int64(live)}
					}
					g.reach(t)
					p := begun(t, fmt.Sprint(live, " of ", bares, ", regions of ", region, ", ", workers, " workers"), g, g.how(region, 0, workers, 1, 0))
					p.finish()
				}
			}
		}
	}
}

// P16.4: far more roots than the heap has words: the bound is the heap's.
func TestManyRoots(t *testing.T) {
	for _, workers := range []int{1, 3, 64} {
		for _, n := range []int{10, 11, 12, 19, 20, 21, 22, 100, 200000} {
			for name, roots := range map[string][]int64{"5": {5}, "1 and 0": {1, 0}, "0": {0}, "all": {0, 5, 1}} {
				g := example(t)
				for len(g.roots) < n {
					g.roots = append(g.roots, roots...)
				}
				g.reach(t)
				p := begun(t, fmt.Sprint(n, " roots, ", name, ", ", workers, " workers"), g, g.how(3, 0, workers, 1, 0))
				p.finish()
			}
			g := example(t, slices.Repeat([]int64{5, 0}, n)...)
			g.roots[n] = 8
			p := begun(t, fmt.Sprint(n, " roots, one wrong, ", workers, " workers"), g, g.how(3, 0, workers, 1, 0))
			p.end()
			same(t, p.what+": Fault", p.collect.Fault(), api.ErrHeap)
			sameList(t, p.what+": Roots", p.collect.Roots(), g.roots...)
		}
	}
}

// rows are grounds of one shape, of so many objects.
func rows(t *testing.T, n int) map[string]ground {
	t.Helper()
	row := func(class, length, first int, refs func(i int, place func(i int) int64) []int64) ground {
		size, _ := classes.Size(classList(), class, length)
		g := laid(t, 1+n*size, 0, 1, slices.Repeat([][2]int{{class, length}}, n)...)
		place := func(i int) int64 { return int64(1 + i*size) }
		for i := range n {
			g.heap.Put(1+i*size+1, refs(i, place)...)
		}
		g.roots = []int64{place(first)}
		g.reach(t)
		return g
	}
	type at = func(i int) int64
	l := map[string]ground{
		"a ring":           row(knot, 0, 0, func(i int, at at) []int64 { return []int64{at((i + 1) % n), 7} }),
		"a ring backwards": row(knot, 0, n-1, func(i int, at at) []int64 { return []int64{at((i + n - 1) % n), at(i)} }),
		"each second one":  row(knot, 0, min(1, n-1), func(i int, at at) []int64 { return []int64{at(min(i+2, n-1)), 1} }),
		"a tree":           row(pair, 0, 0, func(i int, at at) []int64 { return []int64{at(min(2*i+1, n-1)), at(min(2*i+2, n-1)), at(i)} }),
		"the last one":     row(arrayOfRefs, 3, n-1, func(i int, at at) []int64 { return []int64{at(i), 0, at(i)} }),
		"a fan":            row(bare, 0, 0, func(int, at) []int64 { return nil }),
	}
	fan := l["a fan"]
	for i := 0; i < n; i += 3 {
		fan.roots = append(fan.roots, int64(1+i))
	}
	fan.reach(t)
	l["a fan"] = fan
	return l
}

// P16.4: chains, rings, trees and fans, in regions of each size.
func TestShapes(t *testing.T) {
	for _, n := range []int{1, 2, 3, 10, 40} {
		for name, g := range rows(t, n) {
			for _, x := range [][3]int{{1, 1, 0}, {2, 1, 0}, {3, 1, 3}, {7, 4, 0}, {64, 1, 0}, {64, 2, 5}} {
				for _, region := range []int{1, 4, 13, 1000} {
					h := g.copied()
					p := begun(t, fmt.Sprint(name, " of ", n, ", ", x, ", regions of ", region), h, h.how(region, n%3, x[0], x[1], x[2]))
					p.finish()
				}
			}
		}
	}
}

// every does a play once for each order in which n things may be picked so
// many times.
func every(n, picks int, play func(order []int)) {
	order := make([]int, picks)
	for {
		play(order)
		at := picks - 1
		for ; at >= 0 && order[at] == n-1; at-- {
			order[at] = 0
		}
		if at < 0 {
			return
		}
		order[at]++
	}
}

// P16.4: every order in which workers may begin each phase of a small heap.
func TestEveryOrder(t *testing.T) {
	for _, x := range []struct{ workers, picks int }{{2, 9}, {3, 6}} {
		for phase := range 5 {
			every(x.workers, x.picks, func(order []int) {
				g := gapped(t)
				p := begun(t, fmt.Sprint("from phase ", phase, " on ", order), g, g.how(4, 2, x.workers, 1, 0))
				p.until(phase)
				for _, worker := range order {
					p.step(worker)
				}
				p.finish()
			})
		}
	}
}

// P16.4: a worker is stopped wherever it may be while the other one goes on.
func TestStoppedAnywhere(t *testing.T) {
	for _, region := range []int{1, 4, 30} {
		for first := range 90 {
			for second := 0; second < 90; second += 7 {
				g := gapped(t)
				p := begun(t, fmt.Sprint("regions of ", region, ", ", first, " and ", second), g, g.how(region, 2, 2, 1, 1))
				for range first {
					p.step(0)
				}
				for range second {
					p.step(1)
				}
				for range 150 {
					p.step(0)
				}
				p.finish()
			}
		}
	}
}

// P16.4, P10.3: one worker stands still for ever, in whatever phase it stopped:
// none behind that is ended without it, and the top is as it was.
func TestOneStandsStill(t *testing.T) {
	phases := map[int]int{}
	for seed := range int64(400) {
		r := rand.New(rand.NewSource(seed))
		g := grown(t, r, 60)
		p := begun(t, fmt.Sprint("seed ", seed), g, g.how(1+r.Intn(20), r.Intn(9), 2+r.Intn(3), 1+r.Intn(3), r.Intn(3)))
		p.atRandom(r, r.Intn(700))
		if p.collect.Done() {
			p.holds()
			continue
		}
		still, phase := r.Intn(p.how.Workers), p.collect.Phase()
		had := p.taken[phase][still] > 0
		for range 500 {
			for worker := range p.how.Workers {
				if worker != still {
					p.step(worker)
				}
			}
		}
		same(t, p.what+": Done", p.collect.Done() && (phase < 4 || !had), false)
		same(t, p.what+": the phase in which it is, or the next one", p.collect.Phase() == phase || had && p.collect.Phase() == phase+1, true)
		if p.collect.Phase() < 4 {
			same(t, p.what+": the top", g.to(), p.was)
		}
		phases[p.collect.Phase()]++
		p.finish()
	}
	for phase := range 5 {
		same(t, fmt.Sprint("some stood still in phase ", phase), phases[phase] > 0, true)
	}
}

// P16.4: what was collected is collected again, and again: what is behind one
// end is what is ahead of the next, with roots as they are told.
func TestAgainAndAgain(t *testing.T) {
	for seed := range int64(200) {
		r := rand.New(rand.NewSource(seed))
		g := grown(t, r, 150)
		for again := range 4 {
			if again > 0 && len(g.roots) > 1 {
				g.roots = g.roots[:len(g.roots)-1]
			}
			g.reach(t)
			p := begun(t, fmt.Sprint("seed ", seed, ", again ", again), g, g.how(1+r.Intn(30), r.Intn(30), 1+r.Intn(4), 1+r.Intn(2), r.Intn(3)))
			p.atRandom(r, r.Intn(500))
			p.finish()
			g.roots = p.collect.Roots()
		}
		g.reach(t)
		p := begun(t, fmt.Sprint("seed ", seed, ", without waste"), g, g.how(5, 0, 2, 2, 1))
		p.finish()
		g.roots = p.collect.Roots()
		g.reach(t)
		words := all(g.heap)
		p = begun(t, fmt.Sprint("seed ", seed, ", at last"), g, g.how(7, 0, 3, 2, 1))
		p.finish()
		sameList(t, p.what+": nothing changes any more", all(g.heap), words...)
		same(t, p.what+": Freed", p.collect.Freed(), 0)
	}
}

// P1, P16.2: whatever references and roots there are, in a heap that can be
// read as blocks: the end comes by turns; with a fault no word is another one,
// without one the heap can be read as blocks.
func TestWhateverStandsThere(t *testing.T) {
	faults, right := 0, 0
	for seed := range int64(2500) {
		r := rand.New(rand.NewSource(seed))
		g := grown(t, r, 90)
		blocksOf, _ := blocks.Walk(g.heap, classList(), g.from, g.to())
		for _, b := range blocksOf {
			for word := 1; word < b.Size; word++ {
				if r.Intn(3) == 0 {
					g.heap.Put(b.At+word, anyWord(r, g.heap.Len()))
				}
			}
		}
		for range r.Intn(3) {
			g.roots = append(g.roots, anyWord(r, g.heap.Len()))
		}
		p := begun(t, fmt.Sprint("seed ", seed), g, g.how(1+r.Intn(20), r.Intn(30), 1+r.Intn(5), 1+r.Intn(2), r.Intn(3)))
		p.atRandom(r, r.Intn(900))
		p.end()
		if p.collect.Fault() == api.ErrHeap {
			faults++
			sameList(t, p.what+": the heap", all(g.heap), p.before...)
			sameList(t, p.what+": Roots", p.collect.Roots(), g.roots...)
		} else {
			right++
			_, errno := blocks.Walk(g.heap, classList(), g.from, g.to())
			same(t, p.what+": Walk", errno, api.OK)
			same(t, p.what+": Freed", p.collect.Freed(), p.was-g.to())
			p.beside()
		}
		if t.Failed() {
			return
		}
	}
	same(t, "many had faults", faults > 300, true)
	same(t, "many had none", right > 300, true)
}

// P1: no call panics, or has more than one access, though others write into the
// heap meanwhile.
func TestOthersWriteThere(t *testing.T) {
	for seed := range int64(600) {
		r := rand.New(rand.NewSource(seed))
		g := grown(t, r, 100)
		c := made(t, fmt.Sprint("seed ", seed), g, g.how(1+r.Intn(20), r.Intn(10), 1+r.Intn(3), 1+r.Intn(2), r.Intn(3)))
		writes := 1 + r.Intn(40)
		for n := range 1500 {
			c.step(n % c.how.Workers)
			if r.Intn(writes) == 0 {
				g.heap.Put(r.Intn(g.heap.Len()), anyWord(r, g.heap.Len()))
			}
			if r.Intn(30) == 0 {
				c.collect.Fault()
				c.collect.Roots()
				c.collect.Forward(anyWord(r, g.heap.Len()))
				c.collect.Freed()
				c.collect.Plan()
			}
		}
	}
}

// R4: the same calls have the same answers.
func TestSameAgain(t *testing.T) {
	told := func() string {
		r := rand.New(rand.NewSource(16))
		g := grown(t, r, 300)
		p := begun(t, "again", g, g.how(9, 5, 4, 1, 1))
		p.atRandom(r, 3000)
		p.end()
		return fmt.Sprint(all(g.heap), g.heap.Steps(), p.taken, p.collect.Roots(), p.collect.Plan())
	}
	for range 5 {
		same(t, "again", told(), told())
	}
}

// P16.4, R5: a heap as great as may be. The promise's bound is further off than
// a test can wait: this one is far within.
func TestGreatHeap(t *testing.T) {
	for _, x := range []struct{ region, waste, workers, cap, over int }{{1, 0, 1, 1, 0}, {100, 5000, 5, 2, 3}, {api.MaxWords, 0, 64, 64, 900}, {1 << 62, 1 << 62, 2, 1, 0}} {
		g := ground{heap: cells.New(api.MaxWords), from: 1}
		objects := (api.MaxWords - 1) / 6
		for i := range objects {
			blocks.Lay(g.heap, classList(), 1+6*i, pair, 0)
			blocks.Lay(g.heap, classList(), 5+6*i, arrayOfWords, 1)
			g.heap.Put(2+6*i, int64(1+6*max(i-2, 0)), 0, int64(i))
		}
		g.heap.Put(0, int64(1+6*objects))
		g.roots = []int64{int64(1 + 6*(objects-1))}
		g.reach(t)
		p := begun(t, fmt.Sprint(x), g, g.how(x.region, x.waste, x.workers, x.cap, x.over))
		for n := 0; !p.collect.Done(); n++ {
			if n > x.workers*60*g.heap.Len() {
				t.Fatalf("%s: in phase %d behind %d steps by turns", p.what, p.collect.Phase(), n)
			}
			p.collect.Step(n % x.workers)
		}
		same(t, p.what+": much lives", len(g.reached) > objects/2-2, true)
		p.holds()
	}
}
