package adjust_test

import (
	"fmt"
	"math"
	"slices"
	"testing"

	"ballast/adjust"
	"ballast/api"
	"ballast/bits"
	"ballast/blocks"
	"ballast/cells"
	"ballast/classes"
	"ballast/plan"
)

func same[T comparable](t *testing.T, what string, got, want T) {
	t.Helper()
	if got != want {
		t.Errorf("%s: %v, want %v", what, got, want)
	}
}

func sameList[T comparable](t *testing.T, what string, got []T, want ...T) {
	t.Helper()
	if !slices.Equal(got, want) {
		t.Errorf("%s: %v, want %v", what, got, want)
	}
}

func far() []int {
	return []int{math.MinInt, math.MinInt + 1, -1 << 40, -1 << 32, -65537, -64, -1, 65537, 1 << 32, 1<<32 + 1, 1 << 40, 1 << 62, math.MaxInt - 1, math.MaxInt}
}

func all(c *cells.Cells) []int64 { return c.Words(0, c.Len()) }

// classList are objects with and without references, of both kinds of words.
func classList() []api.Class {
	return []api.Class{{Refs: 2, Words: 1}, {Array: 1}, {Array: 2}, {}, {Refs: 1, Words: 1}, {Words: 1}}
}

const (
	filler = iota
	pair
	arrayOfRefs
	arrayOfWords
	bare
	knot
	word
)

// block is one that is laid, and marked.
type block struct{ at, class, length int }

// ground is a heap, with marks.
type ground struct {
	heap *cells.Cells
	bits *bits.Bits
}

// laid is a heap of so many words in which these blocks live.
func laid(t *testing.T, words int, l ...block) ground {
	t.Helper()
	g := ground{cells.New(words), bits.New(words)}
	for _, x := range l {
		size, errno := blocks.Lay(g.heap, classList(), x.at, x.class, x.length)
		if errno != api.OK {
			t.Fatalf("Lay %v: %v", x, errno)
		}
		g.mark(t, x.at, size)
	}
	return g
}

func (g ground) mark(t *testing.T, at, size int) {
	t.Helper()
	if first, errno := g.bits.Mark(at, size); !first || errno != api.OK {
		t.Fatalf("Mark(%d, %d): %v, %v", at, size, first, errno)
	}
}

func (g ground) plan(t *testing.T, from, to, region, waste int) api.Plan {
	t.Helper()
	p, errno := plan.Make(g.bits, from, to, region, waste)
	if errno != api.OK {
		t.Fatalf("Make(%d, %d, %d, %d): %v", from, to, region, waste, errno)
	}
	return p
}

// example is the chapter's: chapter 13's plan, and the block at 9 has one
// reference, to 14.
func example(t *testing.T) (ground, api.Plan) {
	t.Helper()
	g := laid(t, 30, block{1, knot, 0}, block{9, knot, 0}, block{14, knot, 0}, block{12, word, 0})
	g.heap.Put(10, 14)
	return g, g.plan(t, 1, 21, 5, 2)
}

// crew is an adjuster with all that it was made of.
type crew struct {
	t    *testing.T
	what string
	ground
	p       api.Plan
	control *cells.Cells
	*adjust.Adjuster
	workers int
}

func made(t *testing.T, what string, g ground, p api.Plan, workers int) *crew {
	t.Helper()
	c := &crew{t: t, what: what, ground: g, p: p, control: cells.New(1), workers: workers}
	var errno api.Errno
	c.Adjuster, errno = adjust.New(g.heap, classList(), g.bits, p, c.control, workers)
	if c.Adjuster == nil || errno != api.OK {
		t.Fatalf("%s: New: %v, %v", what, c.Adjuster, errno)
	}
	return c
}

func (c *crew) accesses() int { return c.heap.Steps() + c.control.Steps() }

// Step holds P14.2 at each step: one access at most, and Go or End.
func (c *crew) Step(worker int) int {
	c.t.Helper()
	before := c.accesses()
	told := c.Adjuster.Step(worker)
	if n := c.accesses() - before; n < 0 || n > 1 {
		c.t.Fatalf("%s: a step of worker %d had %d accesses", c.what, worker, n)
	}
	if told != api.Go && told != api.End {
		c.t.Fatalf("%s: a step of worker %d told %d", c.what, worker, told)
	}
	return told
}

// steps has one worker do so many steps.
func (c *crew) steps(worker, n int) {
	c.t.Helper()
	for range n {
		c.Step(worker)
	}
}

// work is how many regions, marked blocks and references of these there are.
// The places of references are reckoned from headers alone.
func (c *crew) work() int {
	n := 0
	if c.p.To > c.p.From {
		n += (c.p.To - c.p.From + min(c.p.Region, api.MaxWords) - 1) / min(c.p.Region, api.MaxWords)
	}
	words := all(c.heap)
	for at := c.p.From; at < c.p.To; at++ {
		if c.bits.Has(at) {
			n += 1 + len(refsAt(words, at))
		}
	}
	return n
}

// refsAt is where the references stand that a header says.
func refsAt(words []int64, at int) []int {
	class, length, _ := classes.Parts(words[at])
	var l []int
	for place := at + 1; place <= at+api.MaxLen && place < len(words); place++ {
		if classes.Ref(classList(), class, length, place-at) {
			l = append(l, place)
		}
	}
	return l
}

// end goes by turns till all have ended, and holds P14.4's bound of each
// worker's steps, where nothing was done before.
func (c *crew) end() {
	c.t.Helper()
	most := 10 + 4*c.work()
	for n := 0; !c.Done(); n++ {
		if n == most {
			c.t.Fatalf("%s: not all have ended within %d steps each", c.what, most)
		}
		for worker := range c.workers {
			c.Step(worker)
		}
	}
}

// P14.1: what New does not take, and what is just enough. With an error
// control is as it was.
func TestNewOfArguments(t *testing.T) {
	heap, marks := cells.New(20), bits.New(20)
	within := api.Plan{From: 1, To: 20, Region: 5}
	for name, x := range map[string]struct {
		heap    *cells.Cells
		b       *bits.Bits
		p       api.Plan
		workers int
		want    api.Errno
	}{
		"all is well":                 {heap, marks, within, 1, api.OK},
		"no heap":                     {nil, marks, within, 1, api.ErrArg},
		"no heap, bits of no words":   {nil, bits.New(0), api.Plan{Region: 1}, 1, api.ErrArg},
		"no bits":                     {heap, nil, within, 1, api.ErrArg},
		"no bits, a heap of no cells": {cells.New(0), nil, api.Plan{Region: 1}, 1, api.ErrArg},
		"neither":                     {nil, nil, api.Plan{Region: 1}, 1, api.ErrArg},
		"no cells, and no words":      {cells.New(0), bits.New(0), api.Plan{Region: 1}, 1, api.OK},
		"zero ones":                   {&cells.Cells{}, &bits.Bits{}, api.Plan{Region: 1}, 1, api.OK},
		"bits of fewer words":         {heap, bits.New(19), api.Plan{From: 1, To: 19, Region: 5}, 1, api.ErrArg},
		"bits of no words":            {heap, bits.New(0), api.Plan{Region: 5}, 1, api.ErrArg},
		"bits of more words":          {heap, bits.New(21), within, 1, api.ErrArg},
		"a heap of no cells":          {cells.New(0), marks, api.Plan{Region: 5}, 1, api.ErrArg},
		"From below 0":                {heap, marks, api.Plan{From: -1, To: 20, Region: 5}, 1, api.ErrArg},
		"From 0":                      {heap, marks, api.Plan{From: 0, To: 20, Region: 5}, 1, api.OK},
		"From and To below 0":         {heap, marks, api.Plan{From: -2, To: -1, Region: 5}, 1, api.ErrArg},
		"To below 0":                  {heap, marks, api.Plan{From: 0, To: -1, Region: 5}, 1, api.ErrArg},
		"From above To":               {heap, marks, api.Plan{From: 11, To: 10, Region: 5}, 1, api.ErrArg},
		"From is To":                  {heap, marks, api.Plan{From: 10, To: 10, Region: 5}, 1, api.OK},
		"both are 0":                  {heap, marks, api.Plan{Region: 5}, 1, api.OK},
		"both are Len":                {heap, marks, api.Plan{From: 20, To: 20, Region: 5}, 1, api.OK},
		"both are above Len":          {heap, marks, api.Plan{From: 21, To: 21, Region: 5}, 1, api.ErrArg},
		"To above Len":                {heap, marks, api.Plan{From: 1, To: 21, Region: 5}, 1, api.ErrArg},
		"the empty plan":              {heap, marks, api.Plan{}, 1, api.ErrArg},
		"Region 0":                    {heap, marks, api.Plan{From: 1, To: 20}, 1, api.ErrArg},
		"Region below 0":              {heap, marks, api.Plan{From: 1, To: 20, Region: -5}, 1, api.ErrArg},
		"Region 1":                    {heap, marks, api.Plan{From: 1, To: 20, Region: 1}, 1, api.OK},
		"Region above all":            {heap, marks, api.Plan{From: 1, To: 20, Region: math.MaxInt}, 1, api.OK},
		"fewer than no workers":       {heap, marks, within, -1, api.ErrArg},
		"no workers":                  {heap, marks, within, 0, api.ErrArg},
		"two workers":                 {heap, marks, within, 2, api.OK},
		"64 workers":                  {heap, marks, within, 64, api.OK},
		"65 workers":                  {heap, marks, within, 65, api.ErrArg},
	} {
		control := cells.New(2)
		control.Put(0, 7, 8)
		a, errno := adjust.New(x.heap, classList(), x.b, x.p, control, x.workers)
		same(t, name, errno, x.want)
		same(t, name+": there is one", a != nil, x.want == api.OK)
		want := []int64{7, 8}
		if x.want == api.OK {
			want[0] = 0
		}
		sameList(t, name+": control", all(control), want...)
		same(t, name+": accesses", control.Steps()+x.heap.Steps(), 0)
	}
}

// P14.1: control without a cell 0.
func TestNewOfControl(t *testing.T) {
	for name, control := range map[string]*cells.Cells{"nil": nil, "zero": {}, "of no cells": cells.New(0)} {
		g, p := example(t)
		a, errno := adjust.New(g.heap, classList(), g.bits, p, control, 1)
		same(t, name, errno, api.ErrArg)
		same(t, name+": there is none", a == nil, true)
	}
}

// P14.1, P1: numbers far from all that may be.
func TestNewFar(t *testing.T) {
	for _, n := range far() {
		for _, x := range []struct {
			p       api.Plan
			workers int
		}{
			{api.Plan{From: n, To: 20, Region: 5}, 1}, {api.Plan{From: 1, To: n, Region: 5}, 1}, {api.Plan{From: n, To: n, Region: 5}, 1},
			{api.Plan{From: n, To: n, Region: n}, n}, {api.Plan{From: 1, To: 20, Region: 5}, n},
		} {
			a, errno := adjust.New(cells.New(20), classList(), bits.New(20), x.p, cells.New(1), x.workers)
			same(t, fmt.Sprint("New ", x), errno, api.ErrArg)
			same(t, fmt.Sprint("New ", x, ": there is none"), a == nil, true)
		}
		_, errno := adjust.New(cells.New(20), classList(), bits.New(20), api.Plan{From: 1, To: 20, Region: n}, cells.New(1), 1)
		same(t, fmt.Sprint("Region ", n), errno == api.OK, n >= 1)
	}
}

// P14.1: all numbers of a small heap's plan.
func TestNewOfEachHeap(t *testing.T) {
	for from := -2; from <= 8; from++ {
		for to := -2; to <= 8; to++ {
			for region := -1; region <= 8; region++ {
				want := api.ErrArg
				if from >= 0 && from <= to && to <= 6 && region >= 1 {
					want = api.OK
				}
				_, errno := adjust.New(cells.New(6), nil, bits.New(6), api.Plan{From: from, To: to, Region: region}, cells.New(1), 1)
				same(t, fmt.Sprint("New of ", from, to, region), errno, want)
			}
		}
	}
}

// P14.1: neither heap nor bits are changed, and regions that others have taken
// by the cell before are there again.
func TestNewChangesNothing(t *testing.T) {
	g, p := example(t)
	before := all(g.heap)
	control := cells.New(3)
	control.Put(0, 4, 5, 6)
	for range 3 {
		if _, errno := adjust.New(g.heap, classList(), g.bits, p, control, 2); errno != api.OK {
			t.Fatal(errno)
		}
		control.Add(0, 2)
		sameList(t, "the heap", all(g.heap), before...)
		sameList(t, "control", all(control), 2, 5, 6)
		same(t, "marks", g.bits.Count(0, 30), 4)
	}
	a, _ := adjust.New(g.heap, classList(), g.bits, p, control, 2)
	for n := 0; !a.Done() && n < 100; n++ {
		a.Step(n % 2)
	}
	same(t, "the word 10", all(g.heap)[10], 11)
	sameList(t, "the others of control", control.Words(1, 3), 5, 6)
}

// R3: whoever handed classes and a plan in may change them behind the call, and
// finds them as they were.
func TestHandedInIsTheCallers(t *testing.T) {
	g, p := example(t)
	g.heap.Put(2, 9)
	l := classList()
	c := &crew{t: t, what: "handed in", ground: g, p: p, control: cells.New(1), workers: 2}
	c.Adjuster, _ = adjust.New(g.heap, l, g.bits, p, c.control, 2)
	mine := fmt.Sprint(p)
	c.steps(0, 2)
	for i := range l {
		l[i] = api.Class{Array: 2}
	}
	for i := range p.Ahead {
		p.Live[i], p.Ahead[i], p.Waits[i], p.Takes[i] = -5, 999, 999, [2]int{9, 9}
	}
	for n := 0; !c.Done() && n < 100; n++ {
		c.Step(n % 2)
	}
	sameList(t, "turned", g.heap.Words(2, 3), 6)
	sameList(t, "turned", g.heap.Words(10, 11), 11)

	g, p = example(t)
	l = classList()
	c = made(t, "as it was", g, p, 3)
	c.end()
	same(t, "the plan", fmt.Sprint(p), mine)
	sameList(t, "the classes", l, classList()...)
}

// R3: memory and bits are shared: what stands there when a worker comes to it
// holds.
func TestPartsAreShared(t *testing.T) {
	g, p := example(t)
	c := made(t, "shared", g, p, 1)
	g.heap.Put(10, 9)
	g.heap.Put(15, 1)
	c.end()
	sameList(t, "turned", g.heap.Words(10, 11), 6)
	sameList(t, "stays", g.heap.Words(15, 16), 1)

	g, p = example(t)
	c = made(t, "not marked any more", g, p, 1)
	g.bits.Clear([2]int{14, 15})
	c.end()
	sameList(t, "a fault stays", g.heap.Words(10, 11), 14)
	same(t, "Fault", c.Fault(), api.ErrHeap)
}

// P14.1: the chapter's example, and each kind of ref.
func TestRoots(t *testing.T) {
	g, p := example(t)
	for _, x := range []struct{ refs, want []int64 }{
		{nil, nil},
		{[]int64{}, nil},
		{[]int64{0}, []int64{0}},
		{[]int64{9, 0, 1, 5}, []int64{6, 0, 1, 5}},
		{[]int64{14, 12, 9, 1, 0, 1, 9, 12, 14}, []int64{11, 9, 6, 1, 0, 1, 6, 9, 11}},
		{[]int64{2, 3, 10, 11, 13, 15, 16}, []int64{2, 3, 10, 11, 13, 15, 16}},
		{[]int64{4, 5, 6, 7, 8, 17, 20, 21, 29, 30, 31}, []int64{4, 5, 6, 7, 8, 17, 20, 21, 29, 30, 31}},
		{[]int64{-1, -9, 9, math.MinInt64, math.MaxInt64}, []int64{-1, -9, 6, math.MinInt64, math.MaxInt64}},
		{[]int64{1<<32 + 9, math.MinInt64 + 9, 65536 + 9, 1<<63 - 9, -9}, []int64{1<<32 + 9, math.MinInt64 + 9, 65536 + 9, 1<<63 - 9, -9}},
	} {
		sameList(t, fmt.Sprint("Roots ", x.refs), adjust.Roots(g.bits, p, x.refs...), x.want...)
	}
	same(t, "accesses", g.heap.Steps(), 0)
}

// P14.1: each word of many heaps, told against what is reckoned by hand.
func TestRootsOfEachWord(t *testing.T) {
	g, _ := example(t)
	for region := 1; region <= 25; region++ {
		for waste := range 25 {
			p := g.plan(t, 1, 21, region, waste)
			for at := int64(-3); at <= 33; at++ {
				what := fmt.Sprint("region ", region, ", waste ", waste, ", of ", at)
				sameList(t, what, adjust.Roots(g.bits, p, 0, at), 0, forward(g.bits, p, at))
			}
		}
	}
}

// forward is what a ref is turned to, by the chapters' words: live words are
// counted one by one.
func forward(b *bits.Bits, p api.Plan, ref int64) int64 {
	if ref < 0 || ref >= int64(b.Words()) || b.Size(int(ref)) == 0 {
		return ref
	}
	if ref < int64(p.Dense) {
		return ref
	}
	to := int64(p.Dense)
	for at := p.Dense; at < int(ref); at++ {
		if _, _, ok := b.Over(at); ok {
			to++
		}
	}
	return to
}

// P14.1: a block that goes to 0, in a heap that begins there, is turned; a ref
// of 0 is none, though a block stands there.
func TestRootsAtZero(t *testing.T) {
	g := laid(t, 10, block{4, bare, 0}, block{6, word, 0})
	p := g.plan(t, 0, 10, 3, 0)
	sameList(t, "to 0", adjust.Roots(g.bits, p, 4, 6, 0, 5, 7), 0, 1, 0, 5, 7)
	g = laid(t, 10, block{0, word, 0}, block{6, word, 0})
	p = g.plan(t, 0, 10, 3, 0)
	sameList(t, "at 0", adjust.Roots(g.bits, p, 0, 6, 1), 0, 2, 1)
}

// P14.1: a ref is turned to what Forward tells: to 0, where the marked block is
// none of the plan's heap.
func TestRootsOutsideThePlan(t *testing.T) {
	g := laid(t, 30, block{2, word, 0}, block{10, word, 0}, block{25, word, 0})
	p := g.plan(t, 5, 20, 5, 0)
	sameList(t, "outside", adjust.Roots(g.bits, p, 2, 10, 25, 3, 26), 0, 5, 0, 3, 26)
	sameList(t, "of the empty plan", adjust.Roots(g.bits, api.Plan{}, 2, 0, 3), 0, 0, 3)
}

// R1: without bits nothing is marked, so that all stay.
func TestRootsWithoutBits(t *testing.T) {
	_, p := example(t)
	for name, b := range map[string]*bits.Bits{"nil": nil, "zero": {}, "of no words": bits.New(0)} {
		sameList(t, name, adjust.Roots(b, p, 9, 0, -1, 14), 9, 0, -1, 14)
		same(t, name+": none", len(adjust.Roots(b, p)), 0)
		sameList(t, name+", and without a plan", adjust.Roots(b, api.Plan{}, 9, 0, -1), 9, 0, -1)
	}
}

// P1: plans that nobody made, at each ref.
func TestRootsOfAnyPlan(t *testing.T) {
	g, made := example(t)
	for _, n := range far() {
		for _, p := range []api.Plan{{From: n}, {To: n}, {Region: n}, {From: n, To: n, Region: n}, {From: 1, To: 21, Region: 5, Dense: n}, {To: 30, Region: 1, Top: n, Ahead: []int{n}}} {
			refs := []int64{9, 0, 5, int64(n), 14}
			got := adjust.Roots(g.bits, p, refs...)
			same(t, fmt.Sprint(p, ": how many"), len(got), len(refs))
			sameList(t, fmt.Sprint(p, ": those that stay"), got[1:4], refs[1:4]...)
		}
		sameList(t, fmt.Sprint("of ", n), adjust.Roots(g.bits, made, int64(n), 9), int64(n), 6)
	}
}

// R3: refs stay as they are, and what is told is the caller's.
func TestRootsAreTheCallers(t *testing.T) {
	g, p := example(t)
	refs := []int64{9, 0, 5, 14}
	told := adjust.Roots(g.bits, p, refs...)
	sameList(t, "handed in", refs, 9, 0, 5, 14)
	refs[0], refs[2] = 77, 78
	sameList(t, "told", told, 6, 0, 5, 11)
	told[1] = 79
	sameList(t, "handed in later", refs, 77, 0, 78, 14)
	sameList(t, "told again", adjust.Roots(g.bits, p, 9, 0, 5, 14), 6, 0, 5, 11)

	same(t, "a great many", len(adjust.Roots(g.bits, p, make([]int64, 300000)...)), 300000)
}
