package adjust_test

import (
	"fmt"
	"math"
	"slices"
	"testing"

	"ballast/adjust"
	"ballast/api"
	"ballast/bits"
	"ballast/cells"
	"ballast/classes"
)

// The chapter's example, by several numbers of workers.
func TestExample(t *testing.T) {
	for workers := 1; workers <= 64; workers++ {
		g, p := example(t)
		want := all(g.heap)
		want[10] = 11
		c := made(t, fmt.Sprint(workers, " workers"), g, p, workers)
		c.end()
		sameList(t, c.what, all(g.heap), want...)
		same(t, c.what+": Fault", c.Fault(), api.OK)
	}
}

// P14.2: a worker takes a region by control's cell; a reference is read, then
// stored turned.
func TestWayOfAReference(t *testing.T) {
	g := laid(t, 30, block{9, pair, 0}, block{20, bare, 0})
	g.heap.Put(10, 20, 9, 20)
	c := made(t, "the way", g, g.plan(t, 0, 30, 30, 0), 1)
	for _, x := range []struct {
		what          string
		control, heap int // accesses
		words         []int64
	}{
		{"a region", 1, 0, []int64{20, 9, 20}},
		{"the header", 1, 1, []int64{20, 9, 20}},
		{"the first one is read", 1, 2, []int64{20, 9, 20}},
		{"and stored", 1, 3, []int64{4, 9, 20}},
		{"the second one is read", 1, 4, []int64{4, 9, 20}},
		{"and stored", 1, 5, []int64{4, 0, 20}},
		{"the next header", 1, 6, []int64{4, 0, 20}},
	} {
		same(t, x.what, c.Step(0), api.Go)
		same(t, x.what+": control", c.control.Steps(), x.control)
		same(t, x.what+": heap", g.heap.Steps(), x.heap)
		sameList(t, x.what+": words", g.heap.Words(10, 13), x.words...)
	}
	same(t, "no region any more", c.Step(0), api.End)
	same(t, "it was asked for", c.control.Steps(), 2)
	same(t, "Done", c.Done(), true)
}

// P14.2: how often heap and control are accessed: each region is taken, and
// none by each worker once; a header and a reference are read, and one that is
// neither 0 nor a fault is stored, even where it stays.
func TestAccesses(t *testing.T) {
	for workers := 1; workers <= 5; workers++ {
		for region := 1; region <= 31; region++ {
			g := laid(t, 31, block{1, pair, 0}, block{6, arrayOfRefs, 5}, block{12, arrayOfWords, 3}, block{20, word, 0}, block{25, arrayOfRefs, 0})
			g.heap.Put(2, 0, 1, 1)
			g.heap.Put(7, 25, 3, 20, 0, -1)
			g.heap.Put(13, 1, 6, 12)
			c := made(t, fmt.Sprint(workers, " workers, regions of ", region), g, g.plan(t, 1, 31, region, 30), workers)
			same(t, c.what+": all stays", c.p.Dense, 31)
			before := all(g.heap)
			c.end()
			same(t, c.what+": accesses of the heap", g.heap.Steps(), 5+7+3)
			same(t, c.what+": of control", c.control.Steps(), (30+region-1)/region+workers)
			same(t, c.what+": control", all(c.control)[0], int64(c.control.Steps()))
			sameList(t, c.what+": the heap", all(g.heap), before...)
		}
	}
}

// P14.2: a step of who isn't there, and of who has ended, does nothing.
func TestStepOfNobody(t *testing.T) {
	g, p := example(t)
	c := made(t, "nobody", g, p, 2)
	nothing := func(what string, workers ...int) {
		t.Helper()
		words, control, accesses := all(g.heap), all(c.control)[0], c.accesses()
		for _, worker := range workers {
			same(t, fmt.Sprint(what, ": Step ", worker), c.Step(worker), api.End)
		}
		sameList(t, what+": the heap", all(g.heap), words...)
		same(t, what+": control", all(c.control)[0], control)
		same(t, what+": accesses", c.accesses(), accesses)
	}
	none := append(far(), -2, 2, 3, 63, 64, 65)
	nothing("at first", none...)
	same(t, "not done by that", c.Done(), false)
	c.steps(0, 3)
	nothing("in the midst", none...)
	for n := 0; c.Step(0) == api.Go && n < 100; n++ {
	}
	nothing("one has ended", append(none, 0, 0, 0)...)
	same(t, "the other one has not", c.Done(), false)
	same(t, "it ends by its first step", c.Step(1), api.End)
	nothing("both have", append(none, 0, 1, 0, 1)...)
	same(t, "Done", c.Done(), true)
}

// P14.2: a heap of no words has no region: each worker ends by its first step.
func TestEmptyPlan(t *testing.T) {
	for _, workers := range []int{1, 2, 64} {
		for _, at := range []int{0, 7, 30} {
			g := laid(t, 30, block{2, pair, 0}, block{10, pair, 0})
			g.heap.Put(3, 10, 2)
			before := all(g.heap)
			c := made(t, fmt.Sprint(workers, " workers, at ", at), g, g.plan(t, at, at, 4, 0), workers)
			same(t, c.what+": not done ahead", c.Done(), false)
			for worker := range workers {
				same(t, c.what, c.Step(worker), api.End)
			}
			same(t, c.what+": Done", c.Done(), true)
			same(t, c.what+": accesses of the heap", g.heap.Steps(), 0)
			sameList(t, c.what+": the heap", all(g.heap), before...)
		}
	}
	g := ground{cells.New(0), bits.New(0)}
	c := made(t, "no cells", g, api.Plan{Region: 1}, 1)
	c.end()
	same(t, "no cells: Fault", c.Fault(), api.OK)
}

// P14.2: a plan of one region is one worker's; the others end at once.
func TestOneRegion(t *testing.T) {
	for _, region := range []int{20, 21, 1 << 20, math.MaxInt} {
		for first := range 3 {
			g, p := example(t)
			p = g.plan(t, 1, 21, region, 2)
			c := made(t, fmt.Sprint("worker ", first, " of one region of ", region), g, p, 3)
			same(t, c.what, c.Step(first), api.Go)
			for worker := range 3 {
				if worker != first {
					same(t, c.what+": another one", c.Step(worker), api.End)
				}
			}
			same(t, c.what+": Done", c.Done(), false)
			c.end()
			same(t, c.what+": the word 10", all(g.heap)[10], forward(g.bits, p, 14))
		}
	}
}

// knots are so many objects of three words, from word 1 on, each of which
// refers to itself; there is a dead word at 0.
func knots(t *testing.T, n int) ground {
	t.Helper()
	l := make([]block, n)
	for i := range l {
		l[i] = block{1 + 3*i, knot, 0}
	}
	g := laid(t, 1+3*n, l...)
	for i := range n {
		g.heap.Put(2+3*i, int64(1+3*i))
	}
	return g
}

// turnedKnots are those of the knots whose references are turned.
func turnedKnots(g ground) []int {
	var l []int
	for i := 0; 2+3*i < g.heap.Len(); i++ {
		if g.heap.Words(2+3*i, 3+3*i)[0] == int64(3*i) {
			l = append(l, i)
		}
	}
	return l
}

// P14.2: regions are taken in the order in which workers ask; of a region the
// blocks that begin there are gone over, rising, whole ones, however far they
// reach into the next region; no others are.
func TestRegionsAreTaken(t *testing.T) {
	g := knots(t, 6)
	c := made(t, "regions of 6 words", g, g.plan(t, 0, 19, 6, 0), 3)
	// The knots 0 and 1 begin in the region 0, of the words 0 to 5, and so on:
	// each second one ends in the next region.
	c.steps(2, 1)
	c.steps(0, 1)
	c.steps(1, 1)
	same(t, "three are taken", all(c.control)[0], 3)
	c.steps(0, 6)
	sameList(t, "the second region", turnedKnots(g), 2, 3)
	c.steps(1, 3)
	sameList(t, "half of the third one", turnedKnots(g), 2, 3, 4)
	c.steps(2, 5)
	sameList(t, "nearly all of the first one", turnedKnots(g), 0, 2, 3, 4)
	c.steps(2, 1)
	sameList(t, "all of it", turnedKnots(g), 0, 1, 2, 3, 4)
	same(t, "nobody took one meanwhile", all(c.control)[0], 3)
	same(t, "the last one, without blocks", c.Step(0), api.Go)
	same(t, "there is none any more", c.Step(0), api.End)
	same(t, "nor for another one", c.Step(2), api.End)
	same(t, "the third worker has work", c.Step(1), api.Go)
	c.steps(1, 2)
	sameList(t, "all", turnedKnots(g), 0, 1, 2, 3, 4, 5)
	same(t, "it has ended, too", c.Step(1), api.End)
	same(t, "Done", c.Done(), true)
}

// P14.2: one worker goes over more regions than it has steps at a time, rising.
func TestMoreRegionsThanWorkers(t *testing.T) {
	for region := 1; region <= 40; region++ {
		for _, workers := range []int{1, 2, 5} {
			g := knots(t, 10)
			c := made(t, fmt.Sprint(workers, " workers, regions of ", region), g, g.plan(t, 0, 31, region, 0), workers)
			var seen []int
			for n := 0; c.Step(0) == api.Go && n < 1000; n++ {
				now := turnedKnots(g)
				if len(now) > len(seen)+1 || !slices.IsSorted(now) || len(now) > 0 && now[len(now)-1] != len(now)-1 {
					t.Fatalf("%s: behind %v came %v", c.what, seen, now)
				}
				seen = now
			}
			same(t, c.what+": all are one worker's", len(seen), 10)
			c.end()
		}
	}
}

// P14.2: a heap without marked blocks is not read at all.
func TestWithoutMarks(t *testing.T) {
	for _, workers := range []int{1, 3} {
		g := ground{cells.New(20), bits.New(20)}
		for at := range 20 {
			g.heap.Put(at, classes.Header(arrayOfRefs, 3))
		}
		before := all(g.heap)
		c := made(t, fmt.Sprint(workers, " workers"), g, g.plan(t, 0, 20, 3, 0), workers)
		c.end()
		same(t, c.what+": accesses of the heap", g.heap.Steps(), 0)
		sameList(t, c.what+": the heap", all(g.heap), before...)
		same(t, c.what+": Fault", c.Fault(), api.OK)
	}
}

// P14.2: blocks of the heap that are not marked, marked ones outside of the
// plan's heap, and words of marked ones that are no references are nobody's.
func TestOtherWordsStay(t *testing.T) {
	g := laid(t, 40, block{0, pair, 0}, block{8, arrayOfWords, 4}, block{16, knot, 0}, block{20, filler, 2}, block{30, pair, 0}, block{36, pair, 0})
	dead := laid(t, 40, block{24, pair, 0})
	g.heap.Put(24, dead.heap.Words(24, 28)...)
	for _, at := range []int{1, 2, 3, 9, 10, 11, 12, 18, 21, 22, 25, 26, 27, 31, 32, 33, 37, 38, 39} {
		g.heap.Put(at, 16)
	}
	g.heap.Put(17, 8)
	want := all(g.heap)
	want[17] = 5
	c := made(t, "other words", g, g.plan(t, 5, 29, 4, 0), 2)
	c.end()
	sameList(t, c.what, all(g.heap), want...)
	same(t, c.what+": Fault", c.Fault(), api.OK)
	same(t, c.what+": accesses of the heap", g.heap.Steps(), 3+2)
}

// P14.2: objects of each class, and arrays: their references are turned, and
// nothing else of them.
func TestEachClass(t *testing.T) {
	for name, x := range map[string]struct {
		class, length int
		refs          int
	}{
		"a pair": {pair, 0, 2}, "no references": {word, 0, 0}, "a header alone": {bare, 0, 0}, "a knot": {knot, 0, 1},
		"an array of none": {arrayOfRefs, 0, 0}, "of one": {arrayOfRefs, 1, 1}, "of many": {arrayOfRefs, 17, 17}, "of words": {arrayOfWords, 9, 0},
		"a filler": {filler, 9, 0}, "the longest array": {arrayOfRefs, api.MaxLen, api.MaxLen},
	} {
		g := laid(t, 1100, block{3, x.class, x.length}, block{1090, bare, 0})
		size := g.bits.Size(3)
		for at := 4; at < 3+size; at++ {
			g.heap.Put(at, 1090)
		}
		want := all(g.heap)
		for at := 4; at < 4+x.refs; at++ {
			want[at] = int64(size)
		}
		c := made(t, name, g, g.plan(t, 0, 1100, 50, 0), 2)
		c.end()
		sameList(t, name, all(g.heap), want...)
	}
}

// P14.2: references are those that headers say, as far as they have cells,
// whatever the marks' size is.
func TestHeadersThatSayMore(t *testing.T) {
	for _, x := range []struct{ class, length, refs int }{
		{arrayOfRefs, 8, 8}, {arrayOfRefs, 9, 9}, {arrayOfRefs, 10, 9}, {arrayOfRefs, 11, 9}, {arrayOfRefs, api.MaxLen, 9},
		{arrayOfRefs, api.MaxLen + 1, 0}, {arrayOfWords, 20, 0}, {pair, 0, 2}, {pair, 1, 0}, {knot, 0, 1}, {filler, 65535, 0},
	} {
		for _, size := range []int{1, 2, 10} {
			g := laid(t, 20, block{3, bare, 0})
			g.heap.Put(10, classes.Header(x.class, x.length), 3, 3, 3, 3, 3, 3, 3, 3, 3)
			g.mark(t, 10, size)
			want := all(g.heap)
			for at := 11; at < 11+x.refs; at++ {
				want[at] = 1
			}
			c := made(t, fmt.Sprint(x, " in ", size), g, g.plan(t, 1, 20, 4, 0), 2)
			c.end()
			sameList(t, c.what, all(g.heap), want...)
			same(t, c.what+": accesses of the heap", g.heap.Steps(), 2+2*x.refs)
			same(t, c.what+": Fault", c.Fault(), api.OK)
		}
	}
	g := laid(t, 20, block{3, bare, 0})
	g.heap.Put(19, classes.Header(arrayOfRefs, 5))
	g.mark(t, 19, 1)
	c := made(t, "no cell behind it", g, g.plan(t, 1, 20, 4, 0), 2)
	c.end()
	same(t, c.what, g.heap.Steps(), 2)
}

// P14.2: the references of a header stand behind the plan's heap, too.
func TestReferencesBehindThePlan(t *testing.T) {
	g := laid(t, 20, block{3, bare, 0})
	g.heap.Put(10, classes.Header(arrayOfRefs, 5), 3, 3, 3, 3, 3, 3)
	g.mark(t, 10, 2)
	c := made(t, "behind the plan", g, g.plan(t, 1, 12, 4, 0), 2)
	c.end()
	sameList(t, c.what, g.heap.Words(11, 17), 1, 1, 1, 1, 1, 3)
}

// P14.2: a marked word that is no header, or says what may not be, has no
// references, and is no fault.
func TestNoHeader(t *testing.T) {
	for _, header := range []int64{0, 1, 3, -1, math.MinInt64, math.MaxInt64, 1<<62 - 1, classes.Header(arrayOfRefs, 4) | math.MinInt64, classes.Header(arrayOfRefs, 4) | 1<<56, classes.Header(7, 0), classes.Header(1<<24-1, 0), classes.Header(arrayOfRefs, 1<<32-1)} {
		g := laid(t, 20, block{3, bare, 0})
		g.heap.Put(10, header, 3, 3, 3, 3)
		g.mark(t, 10, 5)
		before := all(g.heap)
		c := made(t, fmt.Sprint("the header ", header), g, g.plan(t, 1, 20, 4, 0), 1)
		c.end()
		sameList(t, c.what, all(g.heap), before...)
		same(t, c.what+": accesses of the heap", g.heap.Steps(), 2)
		same(t, c.what+": Fault", c.Fault(), api.OK)
	}
}

// P14.2: classes that may not be, and none at all: there are no references.
func TestWithoutClasses(t *testing.T) {
	for name, l := range map[string][]api.Class{"nil": nil, "none": {}, "may not be": {{Refs: -1}, {Array: 3}, {Refs: 65}, {Array: 1, Words: 1}, {Words: -1}}} {
		g, p := example(t)
		before := all(g.heap)
		a, errno := adjust.New(g.heap, l, g.bits, p, cells.New(1), 1)
		same(t, name, errno, api.OK)
		for n := 0; !a.Done() && n < 100; n++ {
			a.Step(0)
		}
		sameList(t, name+": the heap", all(g.heap), before...)
		same(t, name+": Fault", a.Fault(), api.OK)
		same(t, name+": Done", a.Done(), true)
	}
}

// P14.2, P14.3: references of each kind: what is 0 or a fault is read alone.
func TestEachReference(t *testing.T) {
	for name, x := range map[string]struct {
		ref, want int64
		fault     bool
	}{
		"none":                             {0, 0, false},
		"a block that stays":               {1, 1, false},
		"one that moves":                   {9, 6, false},
		"itself, which moves":              {14, 11, false},
		"one of the least":                 {12, 9, false},
		"a word within a block that stays": {2, 2, true},
		"a word within a block that moves": {10, 10, true},
		"the last word of one":             {16, 16, true},
		"a dead word among what stays":     {4, 4, true},
		"a dead word":                      {7, 7, true},
		"where the block goes":             {11, 11, true},
		"the dead word behind all":         {20, 20, true},
		"behind the plan's heap":           {21, 21, true},
		"the last cell":                    {29, 29, true},
		"beyond the heap":                  {30, 30, true},
		"far beyond it":                    {1 << 40, 1 << 40, true},
		"a block, and 2 to the 32":         {1<<32 + 9, 1<<32 + 9, true},
		"a block, and 2 to the 16":         {1<<16 + 9, 1<<16 + 9, true},
		"a block, and 2 to the 63":         {math.MinInt64 + 9, math.MinInt64 + 9, true},
		"a header":                         {classes.Header(knot, 0), classes.Header(knot, 0), true},
		"below 0":                          {-1, -1, true},
		"a block below 0":                  {-9, -9, true},
		"the least of all":                 {math.MinInt64, math.MinInt64, true},
		"the greatest of all":              {math.MaxInt64, math.MaxInt64, true},
	} {
		for workers := 1; workers <= 3; workers++ {
			g, p := example(t)
			g.heap.Put(10, 0)
			g.heap.Put(15, x.ref)
			want := all(g.heap)
			want[15] = x.want
			c := made(t, fmt.Sprint(name, ", ", workers, " workers"), g, p, workers)
			c.end()
			sameList(t, c.what, all(g.heap), want...)
			stores := 1
			if x.fault || x.ref == 0 {
				stores = 0
			}
			same(t, c.what+": accesses of the heap", g.heap.Steps(), 4+3+stores)
			same(t, c.what+": Fault", c.Fault() == api.ErrHeap, x.fault)
		}
	}
}

// P14.2: beside a fault all goes on: the others of the object, and other
// objects, whichever worker has them.
func TestFaultBesideOthers(t *testing.T) {
	for _, wrong := range []int64{-1, 4, 99, 8} {
		for workers := 1; workers <= 4; workers++ {
			g := laid(t, 30, block{3, arrayOfRefs, 4}, block{10, bare, 0}, block{14, knot, 0}, block{20, arrayOfRefs, 2})
			g.heap.Put(4, 10, wrong, 0, 20)
			g.heap.Put(15, wrong)
			g.heap.Put(21, 3, 14)
			c := made(t, fmt.Sprint(wrong, ", ", workers, " workers"), g, g.plan(t, 1, 30, 6, 0), workers)
			c.end()
			sameList(t, c.what, g.heap.Words(4, 8), 6, wrong, 0, 10)
			sameList(t, c.what, g.heap.Words(15, 16), wrong)
			sameList(t, c.what, g.heap.Words(21, 23), 1, 7)
			same(t, c.what+": Fault", c.Fault(), api.ErrHeap)
		}
	}
}

// P14.2: as for Roots, a marked block outside of the plan's heap is where
// Forward says, and a block may go to 0.
func TestReferencesToZero(t *testing.T) {
	g := laid(t, 30, block{2, bare, 0}, block{10, arrayOfRefs, 3}, block{25, bare, 0})
	g.heap.Put(11, 2, 25, 10)
	c := made(t, "outside", g, g.plan(t, 5, 20, 5, 0), 1)
	c.end()
	sameList(t, c.what, g.heap.Words(11, 14), 0, 0, 5)
	same(t, c.what+": Fault", c.Fault(), api.OK)

	g = laid(t, 30, block{2, bare, 0}, block{10, arrayOfRefs, 3})
	g.heap.Put(11, 2, 10, 0)
	c = made(t, "to 0", g, g.plan(t, 0, 30, 5, 0), 1)
	c.end()
	sameList(t, c.what, g.heap.Words(11, 14), 0, 1, 0)
	same(t, c.what+": Fault", c.Fault(), api.OK)
	same(t, c.what+": accesses of the heap", g.heap.Steps(), 2+3+2)
}
