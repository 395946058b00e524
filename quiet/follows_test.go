package quiet_test

import (
	"fmt"
	"math/rand"
	"runtime"
	"slices"
	"sync"
	"sync/atomic"
	"testing"

	"ballast/api"
	"ballast/cells"
	"ballast/deque"
	"ballast/quiet"
)

// tree says which new items come of each item that is worked off.
type tree [][]int64

// grown is a tree of n items, all of which come of the first ones.
func grown(r *rand.Rand, firsts, n int) tree {
	made := make(tree, n)
	for item := firsts; item < n; item++ {
		of := max(0, item-1-r.Intn(6))
		made[of] = append(made[of], int64(item))
	}
	return made
}

// worker works items off, puts new ones into its deque, steals from others
// where that is empty, and offers to end where there is nothing.
type worker struct {
	own    int
	deques []*deque.Deque
	q      *quiet.Quiet
	made   tree
	fresh  []int64 // in its hands: to be pushed
	kept   []int64 // in its hands: to be worked off
	op     *deque.Op
	then   func(v int64, errno api.Errno) // what it makes of op's end
	victim int                            // whom it looks at; the first one is itself
	offer  *quiet.Offer
	ended  bool
	work   func(item int64)
	waits  int // how many offers ended with Wait
	stolen int
}

// step does one step, of one access at most.
func (w *worker) step() {
	switch {
	case w.ended:
	case w.offer != nil:
		w.stepOffer()
	case w.op != nil:
		if w.op.Step() {
			then := w.then
			v, errno := w.op.Value()
			w.op, w.then = nil, nil
			then(v, errno)
		}
	case len(w.fresh) > 0:
		w.op, w.then = w.deques[w.own].Push(w.fresh[0]), w.pushed
	case len(w.kept) > 0:
		last := len(w.kept) - 1
		w.work(w.kept[last])
		w.fresh, w.kept = w.made[w.kept[last]], w.kept[:last]
	default:
		w.look()
	}
}

// look begins with the next one who may have something, or offers to end.
func (w *worker) look() {
	n := len(w.deques)
	switch {
	case w.victim == 0:
		w.op, w.then = w.deques[w.own].Pop(), w.took
	case w.victim < n:
		w.op, w.then = w.deques[(w.own+w.victim)%n].Steal(), w.took
	default:
		w.offer = w.q.Offer(w.deques...)
	}
}

// pushed: what finds no room is kept.
func (w *worker) pushed(_ int64, errno api.Errno) {
	if errno != api.OK {
		w.kept = append(w.kept, w.fresh[0])
	}
	w.fresh, w.victim = w.fresh[1:], 0
}

func (w *worker) took(v int64, errno api.Errno) {
	if errno != api.OK {
		w.victim++
		return
	}
	if w.victim > 0 {
		w.stolen++
	}
	w.kept, w.victim = append(w.kept, v), 0
}

func (w *worker) stepOffer() {
	switch w.offer.Step() {
	case api.Wait:
		w.offer, w.victim = nil, 1
		w.waits++
	case api.End:
		w.offer, w.ended = nil, true
	}
}

// game is several workers, and an account of all items.
type game struct {
	t       *testing.T
	what    string
	q       *quiet.Quiet
	deques  []*deque.Deque
	workers []*worker
	worked  []int // of each item: how often it was worked off
	ended   bool  // some one has
	late    int   // how many were told Wait behind the first end
	stacked int   // how often some one offered while an item lay in a stack alone
}

// begun is a game of n workers at items, the first ones of which are in
// their hands by turns.
func begun(t *testing.T, what string, n, slots, over, firsts int, made tree) *game {
	t.Helper()
	need := deque.Need(slots, over)
	c := cells.New(1 + n*need)
	g := &game{t: t, what: what, q: counted(t, c, 0, n), worked: make([]int, len(made))}
	for i := range n {
		d, errno := deque.New(c, 1+i*need, slots, over)
		same(t, what+": deque", errno, api.OK)
		g.deques = append(g.deques, d)
	}
	for i := range n {
		g.workers = append(g.workers, &worker{own: i, deques: g.deques, q: g.q, made: made, work: func(item int64) { g.worked[item]++ }})
	}
	for item := range firsts {
		w := g.workers[item%n]
		w.kept = append(w.kept, int64(item))
	}
	return g
}

// step does a step of one of them. P7.3: once one has ended nothing is left.
func (g *game) step(i int) {
	w := g.workers[i]
	waits := w.waits
	w.step()
	g.ended = g.ended || w.ended
	if g.ended {
		g.nothingLeft()
		g.late += w.waits - waits
		return
	}
	if w.offer != nil && w.offer.State() == api.Go && g.inStackAlone() {
		g.stacked++
	}
}

func (g *game) nothingLeft() {
	g.t.Helper()
	for i, d := range g.deques {
		if l := d.Items(); len(l) > 0 {
			g.t.Fatalf("%s: one has ended, and in deque %d lies %v", g.what, i, l)
		}
	}
	for i, w := range g.workers {
		if len(w.fresh)+len(w.kept) > 0 {
			g.t.Fatalf("%s: one has ended, and worker %d has %v %v", g.what, i, w.fresh, w.kept)
		}
	}
}

func (g *game) inStackAlone() bool {
	return slices.ContainsFunc(g.deques, func(d *deque.Deque) bool { return d.Stack() > 0 && d.Top() >= d.Bottom() })
}

func (g *game) allEnded() bool {
	return !slices.ContainsFunc(g.workers, func(w *worker) bool { return !w.ended })
}

// end goes by turns. P7.3: all end; each item was worked off once.
func (g *game) end() {
	g.t.Helper()
	n := len(g.workers)
	most := (n + 2) * (n + 2) * (100 + 40*len(g.worked))
	for pick := 0; !g.allEnded(); pick++ {
		if pick > most {
			g.t.Fatalf("%s: not all have ended within %d steps by turns", g.what, most)
		}
		g.step(pick % n)
	}
	for item, times := range g.worked {
		if times != 1 {
			g.t.Fatalf("%s: item %d was worked off %d times", g.what, item, times)
		}
	}
	same(g.t, g.what+": Idle", g.q.Idle(), n)
}

// atRandom does so many steps; a worker that the order favours less may be
// stopped in the midst for long.
func (g *game) atRandom(r *rand.Rand, steps int) {
	weights := make([]int, len(g.workers))
	stretch := 20 + r.Intn(400)
	for n := range steps {
		if n%stretch == 0 {
			for i := range weights {
				weights[i] = r.Intn(11)
			}
		}
		i := r.Intn(len(g.workers))
		if r.Intn(8) >= weights[i] {
			g.step(i)
		}
	}
}

// P7.3: many orders of the steps of several workers: once one has ended
// nothing is left in any deque or in anybody's hands, and by turns all end.
func TestNobodyEndsTooEarly(t *testing.T) {
	waits, stolen, late, stacked, early := 0, 0, 0, 0, 0
	for seed := range int64(3000) {
		r := rand.New(rand.NewSource(seed))
		n := 1 + r.Intn(5)
		firsts := r.Intn(4)
		items := firsts
		if firsts > 0 {
			items += r.Intn(25)
		}
		g := begun(t, fmt.Sprint("seed ", seed), n, 1+r.Intn(3), r.Intn(3), firsts, grown(r, firsts, items))
		g.atRandom(r, r.Intn(1500))
		if g.allEnded() {
			early++
		}
		g.end()
		for _, w := range g.workers {
			waits, stolen = waits+w.waits, stolen+w.stolen
		}
		late, stacked = late+g.late, stacked+g.stacked
	}
	same(t, "some went on behind an offer", waits > 0, true)
	same(t, "some stole", stolen > 0, true)
	same(t, "some went on while others had ended", late > 0, true)
	same(t, "some offered while an item lay in a stack alone", stacked > 0, true)
	same(t, "some games ended at random", early > 0, true)
}

// stretches does a play once for each list of lengths, each from 0 to most.
func stretches(n, most int, play func(lengths []int)) {
	lengths := make([]int, n)
	for {
		play(lengths)
		at := n - 1
		for ; at >= 0 && lengths[at] == most; at-- {
			lengths[at] = 0
		}
		if at < 0 {
			return
		}
		lengths[at]++
	}
}

// P7.3: two workers, each of which is stopped wherever it may be while the
// other one goes on.
func TestTwoStoppedAnywhere(t *testing.T) {
	for name, made := range map[string]tree{"one item": {nil}, "an item, and one that comes of it": {{1}, nil}, "two in a row": {{1, 2}, nil, nil}} {
		late := 0
		stretches(3, 34, func(lengths []int) {
			g := begun(t, fmt.Sprint(name, ", ", lengths), 2, 1, 1, 1, made)
			for i, length := range lengths {
				for range length {
					g.step(i % 2)
				}
			}
			g.end()
			late += g.late
		})
		if len(made) > 1 {
			same(t, name+": some went on while the other had ended", late > 0, true)
		}
	}
}

// P7.3: three workers, in stretches that begin with any of them.
func TestThreeStoppedAnywhere(t *testing.T) {
	made := tree{{2}, {3}, nil, nil}
	for _, order := range [][]int{{0, 1, 2, 0}, {0, 1, 0, 2}, {1, 0, 1, 2}, {2, 0, 2, 1}} {
		stretches(4, 11, func(lengths []int) {
			g := begun(t, fmt.Sprint(order, lengths), 3, 1, 1, 2, made)
			for i, length := range lengths {
				for range 3 * length {
					g.step(order[i])
				}
			}
			g.end()
		})
	}
}

// P7.3: as many workers as there may be.
func TestMostWorkers(t *testing.T) {
	r := rand.New(rand.NewSource(1))
	for _, firsts := range []int{0, 1, 7, 200} {
		g := begun(t, fmt.Sprint(firsts, " first ones"), 64, 2, 1, firsts, grown(r, firsts, firsts+2*firsts))
		g.atRandom(r, 20000)
		g.end()
	}
}

// P7.3: if all offer and nothing lies anywhere, each one that goes on ends,
// whoever else goes on, wherever in its round it is.
func TestAllOffer(t *testing.T) {
	for seed := range int64(300) {
		r := rand.New(rand.NewSource(seed))
		n := []int{1, 2, 3, 5, 64}[r.Intn(5)]
		c := cells.New(1 + n*apart)
		q := counted(t, c, 0, n)
		l := laid(t, c, 1, n)
		var offers []*quiet.Offer
		for range n - 1 {
			o := q.Offer(l...)
			for range 1 + r.Intn(2+6*n) {
				same(t, "while one has not offered", o.Step(), api.Go)
			}
			offers = append(offers, o)
		}
		last := q.Offer(l...)
		same(t, "the last one", last.Step(), api.Go)
		offers = append(offers, last)
		for _, i := range r.Perm(n)[:1+r.Intn(n)] {
			state, steps := goOn(offers[i])
			same(t, fmt.Sprintf("seed %d: offer %d of %d", seed, i, n), state, api.End)
			same(t, fmt.Sprintf("seed %d: offer %d of %d: within a round", seed, i, n), steps <= 1+3*n, true)
		}
		same(t, "Idle", q.Idle(), n)
	}
}

// P7.3: while one does not offer nobody ends, though nothing lies anywhere.
func TestOneDoesNotOffer(t *testing.T) {
	for _, n := range []int{2, 3, 64} {
		c := cells.New(1 + n*apart)
		q := counted(t, c, 0, n)
		l := laid(t, c, 1, n)
		var offers []*quiet.Offer
		for range n - 1 {
			offers = append(offers, q.Offer(l...))
		}
		for range 600 {
			for i, o := range offers {
				same(t, fmt.Sprintf("offer %d of %d", i, n), o.Step(), api.Go)
			}
		}
		same(t, "Idle", q.Idle(), n-1)
	}
}

// alone has the worker step by itself till it has ended. While it offers it
// lets the others go first; the bound is for a program that never ends.
func (w *worker) alone() {
	for n := 0; !w.ended && n < 1<<27; n++ {
		w.step()
		if w.offer != nil {
			runtime.Gosched()
		}
	}
}

// P7.3: also where workers run by themselves, each step at its own time.
func TestNobodyEndsTooEarlyAtOneTime(t *testing.T) {
	for seed := range int64(10) {
		r := rand.New(rand.NewSource(seed))
		const items = 2000
		g := begun(t, "at one time", 4, 2, 1, 2, grown(r, 2, items))
		var left atomic.Int64
		left.Store(items)
		worked := make([][]int64, len(g.workers))
		var all sync.WaitGroup
		for i, w := range g.workers {
			w.work = func(item int64) {
				worked[i] = append(worked[i], item)
				left.Add(-1)
			}
			all.Go(func() {
				w.alone()
				same(t, "left at an end", left.Load(), 0)
			})
		}
		all.Wait()
		l := slices.Concat(worked...)
		slices.Sort(l)
		same(t, "all have ended", g.allEnded(), true)
		same(t, "worked off", len(l), items)
		same(t, "each once", len(slices.Compact(l)), items)
		same(t, "Idle", g.q.Idle(), len(g.workers))
		g.nothingLeft()
		if t.Failed() {
			return
		}
	}
}
