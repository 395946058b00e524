package slide_test

import (
	"fmt"
	"math"
	"math/rand"
	"slices"
	"testing"

	"ballast/api"
	"ballast/bits"
	"ballast/cells"
	"ballast/plan"
	"ballast/slide"
)

func same[T comparable](t *testing.T, what string, got, want T) {
	t.Helper()
	if got != want {
		t.Errorf("%s: %v, want %v", what, got, want)
	}
}

func sameList[T comparable](t *testing.T, what string, got []T, want ...T) {
	t.Helper()
	if !slices.Equal(got, want) {
		t.Errorf("%s: %v, want %v", what, got, want)
	}
}

func far() []int {
	return []int{math.MinInt, math.MinInt + 1, math.MinInt + 6, -1 << 40, -1 << 32, -65537, -64, -1, 65537, 1 << 32, 1<<32 + 1, 1 << 40, 1 << 62, math.MaxInt - 6, math.MaxInt - 1, math.MaxInt}
}

func all(c *cells.Cells) []int64 { return c.Words(0, c.Len()) }

// block is a marked one: where it begins, and how many words it has.
type block struct{ at, size int }

// row are blocks among so many words.
type row struct {
	words  int
	blocks []block
}

// example is chapter 13's.
func example() row { return row{30, []block{{1, 3}, {9, 3}, {14, 3}, {12, 2}}} }

func (r row) bits(t *testing.T) *bits.Bits {
	t.Helper()
	b := bits.New(r.words)
	for _, x := range r.blocks {
		if first, errno := b.Mark(x.at, x.size); !first || errno != api.OK {
			t.Fatalf("%v: Mark %v: %v, %v", r, x, first, errno)
		}
	}
	return b
}

// wordAt is what a heap's word is at first: no two are the same, and none is a
// place.
func wordAt(at int) int64 { return int64(at+1) * 1000003 }

func (r row) heap() *cells.Cells {
	c := cells.New(r.words)
	for at := range r.words {
		c.Put(at, wordAt(at))
	}
	return c
}

// lives tells of each word whether a block has it.
func (r row) lives() []bool {
	l := make([]bool, r.words)
	for _, x := range r.blocks {
		for at := x.at; at < x.at+x.size; at++ {
			l[at] = true
		}
	}
	return l
}

// args are what plan.Make is called with beside the bits.
type args struct{ from, to, region, waste int }

func planned(t *testing.T, b *bits.Bits, a args) api.Plan {
	t.Helper()
	p, errno := plan.Make(b, a.from, a.to, a.region, a.waste)
	if errno != api.OK {
		t.Fatalf("Make %+v: %v", a, errno)
	}
	return p
}

// hands are what a worker of the model has.
type hands struct {
	region int // -1: none
	at     int // the word of the Goal that is next
	read   bool
	word   int64
}

// model is a slider as the chapter's words say it, reckoned word by word from
// the row and where Dense is.
type model struct {
	p       api.Plan
	goals   [][2]int
	source  map[int]int   // of each word of a Goal
	takes   []map[int]int // of each region: how many words it takes out of which
	words   []int64
	workers []hands
	filled  []bool
	moves   [][2]int
}

func modelOf(r row, p api.Plan, workers int) *model {
	m := &model{p: p, source: map[int]int{}}
	for at := range r.words {
		m.words = append(m.words, wordAt(at))
	}
	next := p.Dense
	for at, live := range r.lives() {
		if live && p.Dense <= at && at < p.To {
			m.source[next] = at
			next++
		}
	}
	region := min(p.Region, max(p.To-p.From, 1))
	for first := p.From; first < p.To; first += region {
		g := [2]int{max(first, p.Dense), min(first+region, p.To, next)}
		takes := map[int]int{}
		for at := g[0]; at < g[1]; at++ {
			takes[(m.source[at]-p.From)/region]++
		}
		m.goals, m.takes = append(m.goals, g), append(m.takes, takes)
		m.filled = append(m.filled, g[0] >= g[1])
	}
	for range workers {
		m.workers = append(m.workers, hands{region: -1})
	}
	return m
}

func (m *model) done() bool { return !slices.Contains(m.filled, false) }

func (m *model) waits() []int {
	l := make([]int, len(m.goals))
	for region, takes := range m.takes {
		for other := range takes {
			if other != region && !m.filled[region] {
				l[other]++
			}
		}
	}
	return l
}

func (m *model) had(region int) bool {
	return slices.ContainsFunc(m.workers, func(h hands) bool { return h.region == region })
}

func (m *model) ready() []int {
	var l []int
	for region, waits := range m.waits() {
		if waits == 0 && !m.filled[region] && !m.had(region) {
			l = append(l, region)
		}
	}
	return l
}

// step is P15.2, and tells how many accesses it had.
func (m *model) step(worker int) (int, int) {
	if m.done() || worker < 0 || worker >= len(m.workers) {
		return api.End, 0
	}
	h := &m.workers[worker]
	switch {
	case h.region < 0:
		if ready := m.ready(); len(ready) > 0 {
			*h = hands{region: ready[0], at: m.goals[ready[0]][0]}
		}
		return api.Go, 0
	case !h.read:
		h.read, h.word = true, m.words[m.source[h.at]]
		return api.Go, 1
	}
	m.words[h.at] = h.word
	m.moves = append(m.moves, [2]int{m.source[h.at], h.at})
	h.at, h.read = h.at+1, false
	if h.at == m.goals[h.region][1] {
		m.filled[h.region] = true
		h.region = -1
	}
	if m.done() {
		return api.End, 1
	}
	return api.Go, 1
}

// crew is a slider beside its model.
type crew struct {
	t    *testing.T
	what string
	row
	heap  *cells.Cells
	bits  *bits.Bits
	p     api.Plan
	slide *slide.Slider
	model *model
}

func made(t *testing.T, r row, a args, workers int) *crew {
	t.Helper()
	c := &crew{t: t, what: fmt.Sprintf("%v, %+v, %d workers", r, a, workers), row: r, heap: r.heap(), bits: r.bits(t)}
	c.p = planned(t, c.bits, a)
	var errno api.Errno
	c.slide, errno = slide.New(c.heap, c.bits, c.p, workers)
	if c.slide == nil || errno != api.OK {
		t.Fatalf("%s: New: %v, %v", c.what, c.slide, errno)
	}
	c.model = modelOf(r, c.p, workers)
	return c
}

// step holds a step, and the heap behind it, against the model.
func (c *crew) step(worker int) int {
	c.t.Helper()
	want, accesses := c.model.step(worker)
	before := c.heap.Steps()
	got := c.slide.Step(worker)
	if got != want || c.heap.Steps()-before != accesses {
		c.t.Fatalf("%s: a step of worker %d, behind %d moves: %d with %d accesses, want %d with %d", c.what, worker, len(c.model.moves), got, c.heap.Steps()-before, want, accesses)
	}
	if words := all(c.heap); !slices.Equal(words, c.model.words) {
		c.t.Fatalf("%s: the heap behind a step of worker %d: %v, want %v", c.what, worker, words, c.model.words)
	}
	return got
}

func (c *crew) steps(worker, n int) {
	c.t.Helper()
	for range n {
		c.step(worker)
	}
}

// told holds all that is told against the model.
func (c *crew) told() {
	c.t.Helper()
	sameList(c.t, c.what+": Moves", c.slide.Moves(), c.model.moves...)
	sameList(c.t, c.what+": Ready", c.slide.Ready(), c.model.ready()...)
	sameList(c.t, c.what+": Waits", c.slide.Waits(), c.model.waits()...)
	same(c.t, c.what+": Done", c.slide.Done(), c.model.done())
	if c.t.Failed() {
		c.t.FailNow()
	}
}

// work is how many steps one worker alone has to do.
func (c *crew) work() int {
	n := 0
	for _, g := range c.model.goals {
		if g[0] < g[1] {
			n += 1 + 2*(g[1]-g[0])
		}
	}
	return n
}

// end goes by turns till all is filled.
func (c *crew) end() {
	c.t.Helper()
	for n := 0; !c.slide.Done(); n++ {
		if n > c.work() {
			c.t.Fatalf("%s: not all are filled behind %d steps of each", c.what, n)
		}
		for worker := range c.model.workers {
			c.step(worker)
		}
	}
}

// allRows are all rows of blocks among so many words.
func allRows(words int) []row {
	var l []row
	var more func(at int, blocks []block)
	more = func(at int, blocks []block) {
		if at == words {
			l = append(l, row{words, slices.Clone(blocks)})
			return
		}
		more(at+1, blocks)
		for size := 1; size <= words-at; size++ {
			more(at+size, append(blocks, block{at, size}))
		}
	}
	more(0, nil)
	return l
}

// drawn is a row of some words, of which about so many of a hundred live.
func drawn(r *rand.Rand, words, most, share int) row {
	x := row{words: words}
	for at := r.Intn(3); at < words; {
		size := min(1+r.Intn(most), words-at)
		if r.Intn(100) < share {
			x.blocks = append(x.blocks, block{at, size})
		}
		at += size
	}
	return x
}

// drawnArgs are for a heap whose ends cut no block.
func drawnArgs(r *rand.Rand, x row) args {
	cut := func(at int) bool {
		return slices.ContainsFunc(x.blocks, func(b block) bool { return b.at < at && at < b.at+b.size })
	}
	from, to := r.Intn(1+x.words/4), x.words-r.Intn(1+x.words/4)
	for cut(from) {
		from--
	}
	for cut(to) {
		to++
	}
	return args{from, to, 1 + r.Intn(1+x.words/(1+r.Intn(12))), r.Intn(1 + r.Intn(x.words+1))}
}
