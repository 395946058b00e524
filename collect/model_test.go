package collect_test

import (
	"fmt"
	"math"
	"math/rand"
	"slices"
	"testing"

	"ballast/api"
	"ballast/bits"
	"ballast/blocks"
	"ballast/cells"
	"ballast/classes"
	"ballast/collect"
	"ballast/plan"
)

func same[T comparable](t *testing.T, what string, got, want T) {
	t.Helper()
	if got != want {
		t.Errorf("%s: %v, want %v", what, got, want)
	}
}

func sameList[T comparable](t *testing.T, what string, got []T, want ...T) {
	t.Helper()
	if !slices.Equal(got, want) {
		t.Errorf("%s: %v, want %v", what, got, want)
	}
}

func samePlan(t *testing.T, what string, got, want api.Plan) {
	t.Helper()
	same(t, what, fmt.Sprintf("%+v", got), fmt.Sprintf("%+v", want))
}

// all is a copy of all words; it is no access.
func all(c *cells.Cells) []int64 { return c.Words(0, c.Len()) }

func far() []int {
	return []int{math.MinInt, math.MinInt + 1, -1 << 40, -1 << 32, -65537, -64, -1, 65537, 1 << 32, 1<<32 + 1, 1 << 40, 1 << 58, 1 << 62, math.MaxInt - 1, math.MaxInt}
}

// classList are those of the chapters' examples, one of a header alone, and
// one of a reference and a word.
func classList() []api.Class {
	return []api.Class{{Refs: 2, Words: 1}, {Array: 1}, {Array: 2}, {}, {Refs: 1, Words: 1}}
}

const (
	filler = iota
	pair
	arrayOfRefs
	arrayOfWords
	bare
	knot
)

// ground is a heap from a word on up to the top, which one of the cells ahead
// of it says, with roots, and the objects that they reach, rising.
type ground struct {
	heap    *cells.Cells
	top     int // the cell
	from    int
	roots   []int64
	reached []int
}

// to is the top.
func (g ground) to() int { return int(g.heap.Words(g.top, g.top+1)[0]) }

func (g ground) how(region, waste, workers, cap, over int) api.Collect {
	return api.Collect{From: g.from, Region: region, Waste: waste, Workers: workers, Cap: cap, Over: over}
}

// reach asks layer 4 what the roots reach.
func (g *ground) reach(t *testing.T) {
	t.Helper()
	var errno api.Errno
	g.reached, errno = blocks.Reach(g.heap, classList(), g.from, g.to(), g.roots...)
	if errno != api.OK {
		t.Fatalf("Reach: %v", errno)
	}
}

// bits are marks of just what is reached.
func (g ground) bits(t *testing.T) *bits.Bits {
	t.Helper()
	b := bits.New(g.heap.Len())
	for _, at := range g.reached {
		x, errno := blocks.Read(g.heap, classList(), at)
		if errno != api.OK {
			t.Fatalf("Read %d: %v", at, errno)
		}
		b.Mark(at, x.Size)
	}
	return b
}

// plan is the one of what is reached.
func (g ground) plan(t *testing.T, how api.Collect) api.Plan {
	t.Helper()
	p, errno := plan.Make(g.bits(t), how.From, g.to(), how.Region, how.Waste)
	if errno != api.OK {
		t.Fatalf("Make %+v: %v", how, errno)
	}
	return p
}

// copied is the same ground, in a memory of its own.
func (g ground) copied() ground {
	heap := cells.New(g.heap.Len())
	heap.Put(0, all(g.heap)...)
	g.heap = heap
	return g
}

// example is chapter 4's: 1 refers to 5, a filler stands behind; the word 0 is
// the top, 11, and there are more words.
func example(t *testing.T, roots ...int64) ground {
	t.Helper()
	g := laid(t, 20, 0, 1, [2]int{pair, 0}, [2]int{arrayOfWords, 2}, [2]int{filler, 2})
	g.heap.Put(2, 5, 0, 77)
	g.heap.Put(6, 88, 99)
	g.roots = roots
	return g
}

// laid is a ground of blocks of these classes and lengths, one behind the other
// from a word on; all other words of the memory are -9, but the top.
func laid(t *testing.T, words, top, from int, l ...[2]int) ground {
	t.Helper()
	heap := cells.New(words)
	heap.Put(0, slices.Repeat([]int64{-9}, words)...)
	at := from
	for _, x := range l {
		size, errno := blocks.Lay(heap, classList(), at, x[0], x[1])
		if errno != api.OK {
			t.Fatalf("Lay %v at %d: %v", x, at, errno)
		}
		at += size
	}
	heap.Put(top, int64(at))
	return ground{heap: heap, top: top, from: from}
}

// grown is a ground by chance, of at most so many words.
func grown(t *testing.T, r *rand.Rand, most int) ground {
	t.Helper()
	from := 1 + r.Intn(4)
	g := ground{heap: cells.New(from + r.Intn(most) + r.Intn(5)), from: from, top: r.Intn(from)}
	for at := range g.heap.Len() {
		g.heap.Put(at, anyWord(r, g.heap.Len()))
	}
	to := from + r.Intn(g.heap.Len()-from+1)
	if r.Intn(2) == 0 {
		to = g.heap.Len()
	}
	g.heap.Put(g.top, int64(to))
	objects := filled(r, g.heap, from, to)
	if len(objects) > 0 {
		tangled(r, g.heap, objects)
	}
	for range r.Intn(9) {
		root := int64(0)
		if len(objects) > 0 && r.Intn(5) > 0 {
			root = int64(objects[r.Intn(len(objects))].At)
		}
		g.roots = append(g.roots, root)
	}
	g.reach(t)
	return g
}

// filled lays blocks by chance between two words, some of them fillers, and
// tells which objects there are.
func filled(r *rand.Rand, heap *cells.Cells, from, to int) []api.Block {
	var objects []api.Block
	dense := r.Intn(4) == 0
	for at := from; at < to; {
		class := []int{filler, filler, pair, pair, arrayOfRefs, arrayOfWords, bare, knot}[r.Intn(8)]
		if dense && class == filler {
			class = bare
		}
		length := 0
		if class == filler || class == arrayOfRefs || class == arrayOfWords {
			length = r.Intn(7)
		}
		size, errno := classes.Size(classList(), class, length)
		if errno != api.OK || size > to-at {
			blocks.Fill(heap, at, to)
			break
		}
		blocks.Lay(heap, classList(), at, class, length)
		if class != filler {
			objects = append(objects, api.Block{At: at, Class: class, Len: length, Size: size})
		}
		at += size
	}
	return objects
}

// tangled has the objects refer to one another, or to none, and their other
// words look like references and headers.
func tangled(r *rand.Rand, heap *cells.Cells, objects []api.Block) {
	near := 1 + r.Intn(len(objects))
	rare := 1 + r.Intn(4)
	for i, b := range objects {
		for word := 1; word < b.Size; word++ {
			to := int64(objects[(i+r.Intn(near))%len(objects)].At)
			switch {
			case !classes.Ref(classList(), b.Class, b.Len, word):
				to = anyWord(r, heap.Len())
			case r.Intn(rare+1) == 0:
				to = 0
			case r.Intn(8) == 0:
				to = int64(b.At)
			}
			heap.Put(b.At+word, to)
		}
	}
}

// anyWord is a word of a memory of so many: often a header, or a place.
func anyWord(r *rand.Rand, words int) int64 {
	switch r.Intn(8) {
	case 0, 1, 2:
		return classes.Header(r.Intn(8), []int{0, 0, 0, 1, 3, 8}[r.Intn(6)])
	case 3, 4, 5:
		return int64(r.Intn(words + 1))
	case 6:
		return 0
	}
	return int64(r.Uint64())
}

// crew is a collector with all that it was made of, and how often each worker
// stepped in each phase.
type crew struct {
	t    *testing.T
	what string
	ground
	how     api.Collect
	collect *collect.Collector
	taken   [5][]int
	done    int // steps in all
}

func made(t *testing.T, what string, g ground, how api.Collect) *crew {
	t.Helper()
	c := &crew{t: t, what: what, ground: g, how: how}
	for phase := range c.taken {
		c.taken[phase] = make([]int, how.Workers)
	}
	var errno api.Errno
	c.collect, errno = collect.New(g.heap, classList(), g.top, how, g.roots...)
	if c.collect == nil || errno != api.OK {
		t.Fatalf("%s: New %+v: %v, %v", what, how, c.collect != nil, errno)
	}
	return c
}

// step holds P16.2 at each step: one access of the heap at most, a phase that
// is the same, or one more once each worker has stepped in it, and End at the
// end alone.
func (c *crew) step(worker int) int {
	c.t.Helper()
	phase, accesses := c.collect.Phase(), c.heap.Steps()
	there := 0 <= worker && worker < c.how.Workers
	if there && phase < 5 {
		c.taken[phase][worker]++
	}
	c.done++
	told := c.collect.Step(worker)
	if n := c.heap.Steps() - accesses; n < 0 || n > 1 {
		c.t.Fatalf("%s: a step of worker %d in phase %d had %d accesses", c.what, worker, phase, n)
	}
	now := c.collect.Phase()
	if now != phase && (now != phase+1 || slices.Contains(c.taken[phase], 0)) {
		c.t.Fatalf("%s: from phase %d to %d behind %v steps there", c.what, phase, now, c.taken[min(phase, 4)])
	}
	want := api.Go
	if now == 5 || !there {
		want = api.End
	}
	if told != want || c.collect.Done() != (now == 5) {
		c.t.Fatalf("%s: a step of worker %d to phase %d told %d, Done %v", c.what, worker, now, told, c.collect.Done())
	}
	return told
}

// most is how many steps by turns P16.4 allows.
func (c *crew) most() int {
	return (c.how.Workers + 2) * (c.how.Workers + 2) * (100 + 40*c.heap.Len())
}

// end goes by turns till the end, and tells how many steps that took.
func (c *crew) end() int {
	c.t.Helper()
	n := 0
	for ; !c.collect.Done(); n++ {
		if n >= c.most() {
			c.t.Fatalf("%s: in phase %d behind %d steps by turns", c.what, c.collect.Phase(), n)
		}
		c.step(n % c.how.Workers)
	}
	return n
}

// until goes by turns till a phase begins.
func (c *crew) until(phase int) {
	c.t.Helper()
	for n := 0; c.collect.Phase() < phase; n++ {
		if n >= c.most() {
			c.t.Fatalf("%s: in phase %d behind %d steps by turns", c.what, c.collect.Phase(), n)
		}
		c.step(n % c.how.Workers)
	}
	same(c.t, c.what+": Phase", c.collect.Phase(), phase)
}
