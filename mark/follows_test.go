package mark_test

import (
	"fmt"
	"math/rand"
	"slices"
	"testing"

	"ballast/api"
	"ballast/blocks"
	"ballast/cells"
	"ballast/classes"
	"ballast/mark"
)

// ground is a heap that can be read as blocks from a word on, with roots, and
// what blocks.Reach tells of them.
type ground struct {
	heap  *cells.Cells
	from  int
	roots []int64
	reach []int
}

// filled lays blocks by chance from a word on, some of them fillers, and tells
// which objects there are.
func filled(r *rand.Rand, c *cells.Cells, from int) []api.Block {
	var objects []api.Block
	for at := from; at < c.Len(); {
		class := []int{0, pair, pair, arrayOfRefs, arrayOfRefs, arrayOfWords, bare, link}[r.Intn(8)]
		length := 0
		if class == 0 || class == arrayOfRefs || class == arrayOfWords {
			length = r.Intn(7)
		}
		size, errno := blocks.Lay(c, classList(), at, class, length)
		if errno != api.OK {
			blocks.Fill(c, at, c.Len())
			break
		}
		if class != 0 && at != 0 {
			objects = append(objects, api.Block{At: at, Class: class, Len: length, Size: size})
		}
		at += size
	}
	return objects
}

// tangled has the objects refer to one another, or to none, and their other
// words look like references and headers.
func tangled(r *rand.Rand, c *cells.Cells, objects []api.Block) {
	near := 1 + r.Intn(len(objects)+1)
	popular := objects[r.Intn(len(objects))]
	for i, b := range objects {
		for word := 1; word < b.Size; word++ {
			to := int64(objects[(i+r.Intn(near))%len(objects)].At)
			switch {
			case !classes.Ref(classList(), b.Class, b.Len, word):
				to = []int64{to, classes.Header(bare, 0), classes.Header(arrayOfRefs, 2), -1, int64(b.At)}[r.Intn(5)]
			case r.Intn(4) == 0:
				to = 0
			case r.Intn(6) == 0:
				to = int64(popular.At)
			case r.Intn(8) == 0:
				to = int64(b.At)
			}
			c.Put(b.At+word, to)
		}
	}
}

// grown is a ground by chance, of at most so many words.
func grown(t *testing.T, r *rand.Rand, most int) ground {
	t.Helper()
	f := ground{from: r.Intn(4)}
	f.heap = cells.New(f.from + r.Intn(most))
	for at := range f.from {
		f.heap.Put(at, []int64{5, -1, classes.Header(bare, 0)}[r.Intn(3)])
	}
	objects := filled(r, f.heap, f.from)
	if len(objects) > 0 {
		tangled(r, f.heap, objects)
	}
	for range r.Intn(9) {
		root := int64(0)
		if len(objects) > 0 && r.Intn(5) > 0 {
			root = int64(objects[r.Intn(len(objects))].At)
		}
		f.roots = append(f.roots, root)
	}
	f.reached(t)
	return f
}

func (f *ground) reached(t *testing.T) {
	t.Helper()
	var errno api.Errno
	f.reach, errno = blocks.Reach(f.heap, classList(), f.from, f.heap.Len(), f.roots...)
	if errno != api.OK {
		t.Fatalf("Reach: %v", errno)
	}
}

// play is a gang on a ground.
type play struct {
	*gang
	ground
	words []int64
	marks int // as many were seen
}

func begun(t *testing.T, what string, f ground, workers, cap, over int) *play {
	t.Helper()
	p := &play{gang: made(t, what, f.heap, workers, cap, over), ground: f, words: f.heap.Words(0, f.heap.Len())}
	p.Root(f.roots...)
	return p
}

// step holds P11.4 at each step: nothing is marked that is not reached, and
// nobody has ended as long as something is left to do.
func (p *play) step(worker int) {
	p.t.Helper()
	told := p.gang.Step(worker)
	if marks := p.gang.marks(); marks != p.marks {
		p.marks = marks
		for _, at := range p.marked() {
			if _, ok := slices.BinarySearch(p.reach, at); !ok {
				p.t.Fatalf("%s: %d is marked, reached is %v", p.what, at, p.reach)
			}
		}
	}
	if told == api.End && (p.marks < len(p.reach) || sum(p.Seen()) < len(p.reach)) {
		p.t.Fatalf("%s: worker %d has ended at %d marks, %v seen, of %d", p.what, worker, p.marks, p.Seen(), len(p.reach))
	}
}

// finish goes by turns. P11.4: all end, and just what is reached is marked,
// each by its size, each scanned once.
func (p *play) finish() int {
	p.t.Helper()
	n := 0
	for ; !p.Done(); n++ {
		if n >= p.most() {
			p.t.Fatalf("%s: not all have ended within %d steps by turns", p.what, n)
		}
		p.step(n % p.workers)
	}
	p.holds()
	return n
}

func (p *play) holds() {
	p.t.Helper()
	sameList(p.t, p.what+": marked", p.marked(), p.reach)
	for _, at := range p.reach {
		b, _ := blocks.Read(p.ground.heap, classList(), at)
		same(p.t, fmt.Sprint(p.what, ": the size of ", at), p.bits.Size(at), b.Size)
	}
	same(p.t, p.what+": seen", sum(p.Seen()), len(p.reach))
	same(p.t, p.what+": Fault", p.Fault(), api.OK)
	sameList(p.t, p.what+": the heap", p.ground.heap.Words(0, p.ground.heap.Len()), p.words)
	same(p.t, p.what+": idle", p.idle(), int64(p.workers))
	for worker := range p.workers {
		same(p.t, fmt.Sprint(p.what, ": what lies in deque ", worker), len(p.deque(worker).Items()), 0)
	}
	if p.t.Failed() {
		p.t.FailNow()
	}
}

// atRandom does so many steps; a worker that the order favours less may be
// stopped in the midst for long.
func (p *play) atRandom(r *rand.Rand, steps int) {
	p.t.Helper()
	weights := make([]int, p.workers)
	stretch := 20 + r.Intn(400)
	for n := range steps {
		if n%stretch == 0 {
			for i := range weights {
				weights[i] = r.Intn(11)
			}
		}
		worker := r.Intn(p.workers)
		if r.Intn(8) >= weights[worker] {
			p.step(worker)
		}
	}
}

// P11.4: many heaps, workers, deques and orders of steps.
func TestMarksWhatIsReached(t *testing.T) {
	reached, shared, full, early := 0, 0, 0, 0
	for seed := range int64(2500) {
		r := rand.New(rand.NewSource(seed))
		f := grown(t, r, 240)
		p := begun(t, fmt.Sprint("seed ", seed), f, 1+r.Intn(6), 1+r.Intn(3), r.Intn(3))
		p.atRandom(r, r.Intn(4000))
		if p.Done() {
			early++
			p.holds()
		}
		p.finish()
		reached += len(f.reach)
		seen := slices.DeleteFunc(p.Seen(), func(n int) bool { return n == 0 })
		if len(seen) > 1 {
			shared++
		}
		if p.cap+p.over == 1 {
			full++
		}
	}
	same(t, "much was reached", reached > 10000, true)
	same(t, "many shared the work", shared > 500, true)
	same(t, "many had hardly any room", full > 100, true)
	same(t, "many ended at random", early > 300, true)
}

// P11.4: one worker stands still for ever: nothing else than what is reached is
// marked, and the others don't end without it.
func TestOneStandsStill(t *testing.T) {
	for seed := range int64(300) {
		r := rand.New(rand.NewSource(seed))
		p := begun(t, fmt.Sprint("seed ", seed), grown(t, r, 80), 2+r.Intn(3), 1+r.Intn(3), r.Intn(3))
		still := r.Intn(p.workers)
		for range r.Intn(60) {
			p.step(still)
		}
		if p.Marker.Step(still) == api.End {
			continue
		}
		for range 700 {
			for worker := range p.workers {
				if worker != still {
					p.step(worker)
				}
			}
		}
		same(t, p.what+": Done", p.Done(), false)
		p.finish()
	}
}

// rows are heaps of one shape, so many objects long.
func rows(t *testing.T, n int) map[string]ground {
	t.Helper()
	chain := func(class int, words ...func(i int) int) ground {
		heap, at := heapOf(t, slices.Repeat([][2]int{{class, 0}}, n)...)
		for i := range n {
			for k, to := range words {
				heap.Put(int(at[i])+1+k, at[to(i)])
			}
		}
		return ground{heap: heap, from: 1, roots: at[:1]}
	}
	next := func(i int) int { return (i + 1) % n }
	l := map[string]ground{
		"a ring":               chain(link, next),
		"a ring both ways":     chain(pair, next, func(i int) int { return (i + n - 1) % n }),
		"a tree":               chain(pair, func(i int) int { return min(2*i+1, n-1) }, func(i int) int { return min(2*i+2, n-1) }),
		"each to itself":       chain(link, func(i int) int { return i }),
		"all to the first one": chain(pair, next, func(i int) int { return 0 }),
		"a fan":                {heap: fan(t, min(n, api.MaxLen)), from: 1, roots: []int64{1}},
		"roots alone":          {heap: bares(t, n), from: 1},
	}
	alone := l["roots alone"]
	for at := range int64(n) {
		alone.roots = append(alone.roots, at+1)
	}
	l["roots alone"] = alone
	for name, f := range l {
		f.reached(t)
		l[name] = f
	}
	return l
}

// P11.4: chains, rings, trees and fans, by any number of workers, by turns
// from the first step on: within the bound.
func TestShapes(t *testing.T) {
	for _, n := range []int{1, 2, 3, 10, 40} {
		for name, f := range rows(t, n) {
			for _, x := range [][3]int{{1, 1, 0}, {2, 1, 0}, {2, 2, 1}, {3, 1, 3}, {7, 1, 0}, {7, 4, 0}, {64, 1, 0}, {64, 2, 5}} {
				p := begun(t, fmt.Sprint(name, " of ", n, ", ", x), f, x[0], x[1], x[2])
				p.finish()
			}
		}
	}
}

// P11.4: a worker is stopped wherever it may be while the other one goes on.
func TestTwoStoppedAnywhere(t *testing.T) {
	for name, f := range rows(t, 3) {
		for first := 0; first <= 40; first++ {
			for second := 0; second <= 60; second += 2 {
				for _, over := range []int{0, 1} {
					p := begun(t, fmt.Sprint(name, ", ", first, " and ", second, ", ", over), f, 2, 1, over)
					for range first {
						p.step(0)
					}
					for range second {
						p.step(1)
					}
					for range 100 {
						p.step(0)
					}
					p.finish()
				}
			}
		}
	}
}

// P11.4: whatever words stand in the heap, all end by turns within the bound,
// and what is marked are objects that have no word together.
func TestWhateverStandsThere(t *testing.T) {
	faults := 0
	for seed := range int64(1500) {
		r := rand.New(rand.NewSource(seed))
		heap := cells.New(r.Intn(90))
		for at := range heap.Len() {
			heap.Put(at, anyWord(r, heap.Len()))
		}
		words := heap.Words(0, heap.Len())
		g := made(t, fmt.Sprint("seed ", seed), heap, 1+r.Intn(5), 1+r.Intn(2), r.Intn(3))
		for range r.Intn(20) {
			g.Root(anyWord(r, heap.Len()))
		}
		g.end()
		live := 0
		for _, at := range g.marked() {
			b, errno := blocks.Read(heap, classList(), at)
			if errno != api.OK || b.Class == 0 || b.Size != g.bits.Size(at) {
				t.Fatalf("%s: marked at %d: %v, %v", g.what, at, b, errno)
			}
			live += b.Size
		}
		same(t, g.what+": live words", g.bits.Live(0, heap.Len()), live)
		same(t, g.what+": seen", sum(g.Seen()), g.marks())
		sameList(t, g.what+": the heap", heap.Words(0, heap.Len()), words)
		if g.Fault() == api.ErrHeap {
			faults++
		}
		if t.Failed() {
			return
		}
	}
	same(t, "some had faults", faults > 100, true)
	same(t, "some had none", faults < 1450, true)
}

// anyWord is a word of a heap of so many words: often a header, or a place.
func anyWord(r *rand.Rand, words int) int64 {
	switch r.Intn(8) {
	case 0, 1, 2:
		return classes.Header(r.Intn(7), []int{0, 0, 0, 1, 3, 8}[r.Intn(6)])
	case 3, 4, 5:
		return int64(r.Intn(words + 1))
	case 6:
		return 0
	}
	return int64(r.Uint64())
}

// P1: no step panics, or has more than one access, though others write into
// heap and control, or one memory is both.
func TestOthersWriteThere(t *testing.T) {
	for seed := range int64(400) {
		r := rand.New(rand.NewSource(seed))
		g := made(t, fmt.Sprint("seed ", seed), grown(t, r, 100).heap, 1+r.Intn(3), 1+r.Intn(2), r.Intn(3))
		if heap := g.heap; r.Intn(3) == 0 && heap.Len() >= g.control.Len() {
			g.Marker, _ = mark.New(heap, classList(), g.bits, heap, g.workers, g.cap, g.over)
			g.control = cells.New(1)
		}
		for range 500 {
			g.Root(slices.Repeat([]int64{anyWord(r, g.heap.Len())}, r.Intn(2))...)
			g.Step(r.Intn(g.workers))
			for _, c := range []*cells.Cells{g.heap, g.control} {
				if c.Len() > 0 && r.Intn(9) == 0 {
					c.Put(r.Intn(c.Len()), anyWord(r, g.heap.Len()))
				}
			}
		}
	}
}

// R4: the same calls have the same answers.
func TestSameAgain(t *testing.T) {
	told := func() string {
		r := rand.New(rand.NewSource(5))
		p := begun(t, "again", grown(t, r, 200), 4, 1, 1)
		p.atRandom(r, 400)
		return fmt.Sprint(p.marked(), p.Seen(), p.control.Words(0, p.control.Len()), p.accesses())
	}
	same(t, "again", told(), told())
}

// P11.4: a heap as great as may be, of objects all of which are reached. The
// promise's bound is further off than a test can wait: this one is far within.
func TestGreatHeap(t *testing.T) {
	const n = 16000
	for name, f := range rows(t, n) {
		for _, x := range [][3]int{{1, 1, 0}, {5, 2, 3}, {64, 64, 900}} {
			g := made(t, fmt.Sprint(name, ", ", x), f.heap, x[0], x[1], x[2])
			g.Root(f.roots...)
			for steps := 0; !g.Done(); steps++ {
				if steps > x[0]*60*g.heap.Len() {
					t.Fatalf("%s: not all have ended within %d steps by turns", g.what, steps)
				}
				g.Marker.Step(steps % g.workers)
			}
			sameList(t, g.what, g.marked(), f.reach)
			same(t, g.what+": seen", sum(g.Seen()), len(f.reach))
			same(t, g.what+": Fault", g.Fault(), api.OK)
		}
	}
}
