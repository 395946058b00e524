package arena_test

import (
	"fmt"
	"math/rand"
	"runtime"
	"slices"
	"sync"
	"testing"

	"ballast/api"
	"ballast/arena"
	"ballast/blocks"
	"ballast/cells"
	"ballast/classes"
)

// arrays has the one class of these tests: an array of words may be of any
// size.
func arrays() []api.Class { return []api.Class{{Array: 2}} }

// got is a block that was told.
type got struct{ at, size int }

// thread is one who asks, one ask at a time, out of its own buffer.
type thread struct {
	b     arena.Buffer
	sizes []int // to be asked for, the first one is under way
	k     *arena.Ask
	told  []got
	full  []int // sizes for which there was no room
}

// step does one step of the thread's ask; it tells the block that was told by
// it, if one was.
func (w *thread) step(a *arena.Arena) (got, bool) {
	if w.k == nil {
		w.k = a.Ask(&w.b, w.sizes[0])
	}
	if !w.k.Step() {
		return got{}, false
	}
	at, errno := w.k.At()
	size := w.sizes[0]
	w.sizes, w.k = w.sizes[1:], nil
	if errno != api.OK {
		w.full = append(w.full, size)
		return got{}, false
	}
	w.told = append(w.told, got{at, size})
	return got{at, size}, true
}

func (w *thread) over() bool { return len(w.sizes) == 0 }

// game is several threads at one arena, and an account of whose each word is.
type game struct {
	t        *testing.T
	what     string
	c        *cells.Cells
	a        *arena.Arena
	from, to int
	threads  []*thread
	owner    []int64 // of each cell: which told block it is in; 0: none
	blocks   int64
}

// begun is a game of threads with those sizes each, on a heap of so many
// words behind the top's cell.
func begun(t *testing.T, what string, heap, buffer int, sizes ...[]int) *game {
	t.Helper()
	const at, from = 1, 3
	c := cells.New(from + heap + 2)
	c.Put(0, -1, from, -1)
	c.Put(from+heap, -1, -1)
	g := &game{t: t, what: what, c: c, a: made(t, c, at, from+heap, buffer), from: from, to: from + heap, owner: make([]int64, c.Len())}
	for _, l := range sizes {
		g.threads = append(g.threads, &thread{sizes: slices.Clone(l)})
	}
	return g
}

// step does a step of one of the threads. P8.4: ErrFull only where fewer words
// are left than the size; what is told is nobody else's.
func (g *game) step(i int) {
	g.t.Helper()
	w := g.threads[i]
	if w.over() {
		return
	}
	size, full, left, accesses := w.sizes[0], len(w.full), g.a.Left(), g.c.Steps()
	block, ok := w.step(g.a)
	if g.c.Steps()-accesses > 1 {
		g.t.Fatalf("%s: %d accesses in a step", g.what, g.c.Steps()-accesses)
	}
	if len(w.full) > full && left >= size {
		g.t.Fatalf("%s: ErrFull for %d, and %d are left", g.what, size, left)
	}
	if ok {
		g.own(block)
	}
	g.apart()
}

// own has all words of the block be of its number, which nobody may write
// over.
func (g *game) own(block got) {
	g.t.Helper()
	if block.at < g.from || block.size > g.to-block.at {
		g.t.Fatalf("%s: %v is not from %d to %d", g.what, block, g.from, g.to)
	}
	g.blocks++
	for at := block.at; at < block.at+block.size; at++ {
		if g.owner[at] != 0 {
			g.t.Fatalf("%s: word %d of %v was told already", g.what, at, block)
		}
		g.owner[at] = g.blocks
		g.c.Put(at, g.blocks)
	}
}

// apart: no buffer has a word together with a block that was told, or with
// another buffer, and each lies below the top.
func (g *game) apart() {
	g.t.Helper()
	seen := make([]bool, len(g.owner))
	for i, w := range g.threads {
		if w.b.From < w.b.To && (w.b.From < g.from || w.b.To > g.to-g.a.Left()) {
			g.t.Fatalf("%s: the buffer %d is %v", g.what, i, w.b)
		}
		for at := w.b.From; at < w.b.To; at++ {
			if g.owner[at] != 0 || seen[at] {
				g.t.Fatalf("%s: word %d of the buffer %d, %v, is another one's", g.what, at, i, w.b)
			}
			seen[at] = true
		}
	}
}

func (g *game) over() bool {
	return !slices.ContainsFunc(g.threads, func(w *thread) bool { return !w.over() })
}

// byTurns goes on till all asks are done.
func (g *game) byTurns() {
	g.t.Helper()
	for pick := 0; !g.over(); pick++ {
		if pick > 100000 {
			g.t.Fatalf("%s: not all asks are done by turns", g.what)
		}
		g.step(pick % len(g.threads))
	}
}

// atRandom does so many steps; a thread that the order favours less may be
// stopped in the midst for long.
func (g *game) atRandom(r *rand.Rand, steps int) {
	weights := make([]int, len(g.threads))
	stretch := 3 + r.Intn(40)
	for n := range steps {
		if n%stretch == 0 {
			for i := range weights {
				weights[i] = r.Intn(11)
			}
		}
		i := r.Intn(len(g.threads))
		if r.Intn(8) >= weights[i] {
			g.step(i)
		}
	}
}

// end checks the heap. P8.4: once each told block has its header and all
// buffers are retired, the words up to the top can be read as blocks: those
// that were told, and fillers.
func (g *game) end() {
	g.t.Helper()
	for at, n := range g.owner {
		if n != 0 && g.c.Words(at, at+1)[0] != n {
			g.t.Fatalf("%s: word %d of block %d was written over", g.what, at, n)
		}
	}
	var all []got
	for _, w := range g.threads {
		g.a.Retire(&w.b)
		all = append(all, w.told...)
	}
	sorted(all)
	for _, x := range all {
		g.c.Put(x.at, classes.Header(1, x.size-1))
	}
	top := g.c.Words(1, 2)[0]
	walked, errno := blocks.Walk(g.c, arrays(), g.from, int(top))
	if errno != api.OK {
		g.t.Fatalf("%s: from %d to %d: %v", g.what, g.from, top, errno)
	}
	var objects []got
	for _, b := range walked {
		if b.Class != 0 {
			objects = append(objects, got{b.At, b.Size})
		}
	}
	sameList(g.t, g.what+": objects", objects, all)
	same(g.t, g.what+": the top is not beyond the end", int(top) <= g.to, true)
	sameList(g.t, g.what+": ahead of the heap", []int64{g.c.Words(0, 1)[0], g.c.Words(2, 3)[0]}, []int64{-1, -1})
	sameList(g.t, g.what+": behind the heap", g.c.Words(g.to, g.to+2), []int64{-1, -1})
}

func sorted(l []got) { slices.SortFunc(l, func(x, y got) int { return x.at - y.at }) }

// some are sizes, most of them small ones.
func some(r *rand.Rand, buffer, n int) []int {
	l := make([]int, n)
	for i := range l {
		switch r.Intn(8) {
		case 0:
			l[i] = 1 + r.Intn(2*buffer)
		case 1:
			l[i] = 1 + r.Intn(buffer)
		default:
			l[i] = 1 + r.Intn(buffer/2)
		}
	}
	return l
}

// P8.4: many orders of the steps of several threads' asks.
func TestApart(t *testing.T) {
	told, full, fillers := 0, 0, 0
	for seed := range int64(4000) {
		r := rand.New(rand.NewSource(seed))
		buffer := 2 + r.Intn(20)
		var sizes [][]int
		for range 1 + r.Intn(5) {
			sizes = append(sizes, some(r, buffer, r.Intn(15)))
		}
		g := begun(t, fmt.Sprint("seed ", seed), r.Intn(250), buffer, sizes...)
		g.atRandom(r, r.Intn(120))
		g.byTurns()
		g.end()
		for _, w := range g.threads {
			told, full = told+len(w.told), full+len(w.full)
		}
		walked, _ := blocks.Walk(g.c, arrays(), g.from, g.to-g.a.Left())
		fillers += len(walked)
	}
	same(t, "some were told", told > 0, true)
	same(t, "some found no room", full > 0, true)
	same(t, "there were fillers", fillers > told, true)
}

// P8.4: buffers that are retired in the midst, between asks.
func TestApartWithRetired(t *testing.T) {
	for seed := range int64(1000) {
		r := rand.New(rand.NewSource(seed))
		buffer := 2 + r.Intn(20)
		g := begun(t, fmt.Sprint("seed ", seed), r.Intn(400), buffer, some(r, buffer, 12), some(r, buffer, 12), some(r, buffer, 12))
		for !g.over() {
			g.atRandom(r, 6)
			for _, w := range g.threads {
				if w.k == nil && r.Intn(3) == 0 {
					had := w.b.From < w.b.To
					same(t, "Retire", g.a.Retire(&w.b), had)
				}
			}
			g.apart()
		}
		g.end()
	}
}

// every does a play once for each order in which n parts may be picked so
// many times.
func every(n, picks int, play func(order []int)) {
	order := make([]int, picks)
	for {
		play(order)
		at := picks - 1
		for ; at >= 0 && order[at] == n-1; at-- {
			order[at] = 0
		}
		if at < 0 {
			return
		}
		order[at]++
	}
}

// P8.4: two threads, in every order of their steps.
func TestTwoInEveryOrder(t *testing.T) {
	for _, x := range []struct {
		heap, buffer int
		sizes        [2][]int
	}{
		{40, 8, [2][]int{{3, 3, 3}, {3, 4, 2}}},
		{40, 8, [2][]int{{3, 5, 3}, {6, 3, 3}}},
		{17, 8, [2][]int{{3, 3, 3}, {4, 3, 2}}},
		{12, 8, [2][]int{{5, 3, 1}, {6, 1, 1}}},
		{9, 4, [2][]int{{1, 2, 3}, {2, 2, 1}}},
		{3, 2, [2][]int{{1, 1, 1}, {1, 1, 1}}},
	} {
		every(2, 12, func(order []int) {
			g := begun(t, fmt.Sprint(x, order), x.heap, x.buffer, x.sizes[0], x.sizes[1])
			for _, i := range order {
				g.step(i)
			}
			g.byTurns()
			g.end()
		})
	}
}

// P8.4: three threads, in every order of their first steps.
func TestThreeInEveryOrder(t *testing.T) {
	for _, heap := range []int{8, 20, 60} {
		every(3, 8, func(order []int) {
			g := begun(t, fmt.Sprint(heap, order), heap, 8, []int{3, 4}, []int{5, 2}, []int{2, 7})
			for _, i := range order {
				g.step(i)
			}
			g.byTurns()
			g.end()
		})
	}
}

// P8.4: in a heap without an end that is near nobody is told ErrFull, and no
// word lies between blocks but in fillers; in an empty one everybody is.
func TestRoomAndNone(t *testing.T) {
	r := rand.New(rand.NewSource(1))
	g := begun(t, "room", 5000, 16, some(r, 16, 30), some(r, 16, 30), some(r, 16, 30))
	g.atRandom(r, 100)
	g.byTurns()
	g.end()
	for i, w := range g.threads {
		same(t, fmt.Sprint("thread ", i, ": told"), len(w.told), 30)
	}
	g = begun(t, "none", 0, 16, some(r, 16, 30), some(r, 16, 30))
	g.byTurns()
	g.end()
	for i, w := range g.threads {
		same(t, fmt.Sprint("thread ", i, ": ErrFull"), len(w.full), 30)
	}
}

// P8.4: asks by no buffer lie apart too; what is beside them is nobody's.
func TestApartWithoutBuffers(t *testing.T) {
	g := begun(t, "without buffers", 60, 8, nil)
	var asks []*arena.Ask
	for _, size := range []int{3, 5, 1, 4, 9, 2} {
		asks = append(asks, g.a.Ask(nil, size))
	}
	var all []got
	for pick := 0; len(all) < len(asks) && pick < 1000; pick++ {
		i := pick % len(asks)
		if asks[i].Done() {
			continue
		}
		if asks[i].Step() {
			at, errno := asks[i].At()
			same(t, "At", errno, api.OK)
			all = append(all, got{at, []int{3, 5, 1, 4, 9, 2}[i]})
			g.own(all[len(all)-1])
		}
	}
	same(t, "told", len(all), len(asks))
}

// alone has the thread do all its asks; the bound is for a program that never
// ends.
func (w *thread) alone(a *arena.Arena) {
	for n := 0; !w.over() && n < 1<<27; n++ {
		w.step(a)
		if n%7 == 0 {
			runtime.Gosched()
		}
	}
}

// P8.4: also where threads run by themselves, each step at its own time.
func TestApartAtOneTime(t *testing.T) {
	for seed := range int64(20) {
		r := rand.New(rand.NewSource(seed))
		var sizes [][]int
		for range 4 {
			sizes = append(sizes, some(r, 16, 400))
		}
		g := begun(t, fmt.Sprint("at one time, seed ", seed), 3000+r.Intn(12000), 16, sizes...)
		var all sync.WaitGroup
		for _, w := range g.threads {
			all.Go(func() { w.alone(g.a) })
		}
		all.Wait()
		same(t, "all asks are done", g.over(), true)
		for _, w := range g.threads {
			for _, x := range w.told {
				g.own(x)
			}
			for _, size := range w.full {
				same(t, "ErrFull where too little is left", g.a.Left() < size, true)
			}
		}
		g.apart()
		g.end()
		if t.Failed() {
			return
		}
	}
}
