package collect_test

import (
	"fmt"
	"math"
	"math/rand"
	"slices"
	"testing"

	"ballast/api"
	"ballast/blocks"
	"ballast/cells"
	"ballast/classes"
	"ballast/collect"
	"ballast/mark"
)

// usual is a way to collect the example that may be.
func usual() api.Collect {
	return api.Collect{From: 1, Region: 4, Waste: 0, Workers: 2, Cap: 2, Over: 1}
}

// isMade holds what New tells; with an error there is no collector, and
// whatever comes of it the heap stays, without an access.
func isMade(t *testing.T, what string, heap *cells.Cells, l []api.Class, top int, how api.Collect, want api.Errno, roots ...int64) {
	t.Helper()
	words := all(heap)
	c, errno := collect.New(heap, l, top, how, roots...)
	same(t, what, errno, want)
	same(t, what+": there is a collector", c != nil, want == api.OK)
	sameList(t, what+": the heap", all(heap), words...)
	same(t, what+": accesses", heap.Steps(), 0)
}

// P16.1: no heap, one without cells, and a cell top that the heap doesn't have.
func TestTopsCell(t *testing.T) {
	isMade(t, "as it is to be", example(t).heap, classList(), 0, usual(), api.OK)
	for name, heap := range map[string]*cells.Cells{"no heap": nil, "a zero heap": {}, "no cells": cells.New(0)} {
		for _, top := range append(far(), 0, 1) {
			how := usual()
			isMade(t, fmt.Sprint(name, ", top ", top), heap, classList(), top, how, api.ErrArg)
			how.From = math.MaxInt
			isMade(t, fmt.Sprint(name, ", top ", top, ", From far behind it"), heap, classList(), top, how, api.ErrArg)
		}
	}
	for _, top := range append(far(), -3, -2, 20, 21, 40) {
		for _, from := range []int{1, 20, 21, 41, math.MaxInt} {
			how := usual()
			how.From = from
			isMade(t, fmt.Sprint("top ", top, ", From ", from), example(t).heap, classList(), top, how, api.ErrArg)
		}
	}
}

// P16.1: which classes may be.
func TestClasses(t *testing.T) {
	for name, l := range map[string][]api.Class{
		"a reference below 0":      append(classList(), api.Class{Refs: -1}),
		"a word below 0":           append(classList(), api.Class{Words: -1}),
		"too many fields":          append(classList(), api.Class{Refs: 32, Words: 33}),
		"no such array":            append(classList(), api.Class{Array: 3}),
		"an array with a field":    append(classList(), api.Class{Array: 1, Words: 1}),
		"the first one":            append([]api.Class{{Array: -1}}, classList()[1:]...),
		"one more than may be":     slices.Repeat([]api.Class{{Refs: 2, Words: 1}}, 17),
		"far more than may be":     make([]api.Class, 70000),
		"one that isn't there yet": append(classList(), api.Class{Refs: math.MinInt, Words: math.MaxInt}),
	} {
		isMade(t, name, example(t).heap, l, 0, usual(), api.ErrArg)
		same(t, name+": Check", classes.Check(l...) != api.OK, true)
	}
	for name, l := range map[string][]api.Class{
		"as many as may be": append(classList(), make([]api.Class, 11)...),
		"most fields":       append(classList(), api.Class{Refs: 32, Words: 32}),
		"just those":        classList()[:3],
	} {
		isMade(t, name, example(t).heap, l, 0, usual(), api.OK)
	}
	isMade(t, "too few of them", example(t).heap, classList()[:2], 0, usual(), api.ErrHeap)
	isMade(t, "none", example(t).heap, nil, 0, usual(), api.ErrHeap)
	isMade(t, "none, and none needed", laid(t, 9, 0, 1, [2]int{filler, 4}).heap, nil, 0, usual(), api.OK)
}

// P16.1: From, from 1 on, wherever the top is.
func TestFrom(t *testing.T) {
	for _, from := range append(far(), -2, 0, 12, 13, 20, 21) {
		how := usual()
		how.From = from
		isMade(t, fmt.Sprint("From ", from), example(t).heap, classList(), 0, how, api.ErrArg)
	}
	for from, want := range map[int]api.Errno{1: api.OK, 2: api.ErrHeap, 4: api.ErrHeap, 5: api.OK, 6: api.ErrHeap, 8: api.OK, 10: api.ErrHeap, 11: api.OK} {
		how := usual()
		how.From = from
		isMade(t, fmt.Sprint("From ", from), example(t).heap, classList(), 0, how, want)
	}
}

// P16.1: the top's cell is ahead of the heap.
func TestTopsCellIsAhead(t *testing.T) {
	for from := 1; from <= 9; from++ {
		for top := range 12 {
			g := ground{heap: cells.New(12), top: top, from: from}
			blocks.Fill(g.heap, from, 12)
			g.heap.Put(top, 12)
			want := api.OK
			if top >= from {
				want = api.ErrArg
			}
			isMade(t, fmt.Sprint("From ", from, ", top ", top), g.heap, classList(), top, g.how(3, 0, 1, 1, 0), want)
		}
	}
}

// P16.1: the top, from From to the heap's end: that of a heap without words,
// and that of one that takes all there is, too.
func TestTop(t *testing.T) {
	g := laid(t, 20, 1, 4, [2]int{filler, 15})
	for _, to := range []int64{math.MinInt64, -1 << 32, -1, 0, 1, 3, 21, 22, 1 << 32, 1<<32 + 4, 1<<32 + 20, 1 << 62, math.MaxInt64} {
		g.heap.Put(1, to)
		isMade(t, fmt.Sprint("the top ", to), g.heap, classList(), 1, g.how(3, 0, 1, 1, 0), api.ErrArg)
	}
	for _, to := range []int64{5, 12, 19} {
		g.heap.Put(1, to)
		isMade(t, fmt.Sprint("the top ", to, " within a block"), g.heap, classList(), 1, g.how(3, 0, 1, 1, 0), api.ErrHeap)
	}
	for _, to := range []int64{4, 20} {
		g.heap.Put(1, to)
		isMade(t, fmt.Sprint("the top ", to), g.heap, classList(), 1, g.how(3, 0, 1, 1, 0), api.OK)
	}
	isMade(t, "just the top's cell", laid(t, 1, 0, 1).heap, classList(), 0, usual(), api.OK)
	most := ground{heap: cells.New(api.MaxWords), from: 1}
	most.heap.Put(0, api.MaxWords)
	blocks.Fill(most.heap, 1, api.MaxWords)
	isMade(t, "as many cells as may be", most.heap, classList(), 0, usual(), api.OK)
}

// P16.1: Region and Waste.
func TestRegionAndWaste(t *testing.T) {
	for _, n := range append(far(), -2, 0, 1, 2, 11, 20) {
		how := usual()
		how.Region = n
		want := api.OK
		if n < 1 {
			want = api.ErrArg
		}
		isMade(t, fmt.Sprint("Region ", n), example(t).heap, classList(), 0, how, want)
		how = usual()
		how.Waste = n
		want = api.OK
		if n < 0 {
			want = api.ErrArg
		}
		isMade(t, fmt.Sprint("Waste ", n), example(t).heap, classList(), 0, how, want)
	}
}

// P16.1: workers and their deques: what mark.Need has no answer for, and what
// no memory has room for.
func TestWorkersAndDeques(t *testing.T) {
	hold := func(workers, cap, over int) {
		t.Helper()
		how := usual()
		how.Workers, how.Cap, how.Over = workers, cap, over
		want, need := api.OK, mark.Need(workers, cap, over)
		if need == 0 || need > 65536 {
			want = api.ErrArg
		}
		isMade(t, fmt.Sprint(workers, " workers, Cap ", cap, ", Over ", over), example(t).heap, classList(), 0, how, want)
	}
	for _, n := range append(far(), -2, 0, 1, 2, 63, 64, 65, 66, 4095, 4096, 4097) {
		hold(n, 2, 1)
		hold(2, n, 1)
		hold(2, 2, n)
		hold(n, n, n)
	}
	for _, x := range []struct {
		workers, cap, over, need int
		want                     api.Errno
	}{
		{17, 1, 3850, api.MaxWords, api.OK},
		{16, 1, 4091, api.MaxWords + 1, api.ErrArg},
		{17, 1, 3851, api.MaxWords + 17, api.ErrArg},
		{18, 1, 3850, api.MaxWords + 3855, api.ErrArg},
		{15, 64, 4096, 62461, api.OK},
		{16, 64, 4096, 66625, api.ErrArg},
		{64, 64, 4096, 266497, api.ErrArg},
		{64, 64, 955, 65473, api.OK},
		{64, 64, 956, 65537, api.ErrArg},
		{64, 1, 0, 321, api.OK},
	} {
		same(t, fmt.Sprint("Need ", x), mark.Need(x.workers, x.cap, x.over), x.need)
		how := usual()
		how.Workers, how.Cap, how.Over = x.workers, x.cap, x.over
		isMade(t, fmt.Sprint(x), example(t).heap, classList(), 0, how, x.want)
	}
}

// P16.1: heaps that can't be read as blocks.
func TestBlocks(t *testing.T) {
	for _, x := range []struct {
		what string
		at   int
		word int64
	}{
		{"no header at From", 1, 5},
		{"no header within", 5, 0},
		{"no header at last", 8, -1},
		{"a class that isn't there", 5, classes.Header(6, 0)},
		{"a length that may not be", 1, classes.Header(pair, 1)},
		{"an array too long", 5, classes.Header(arrayOfWords, 1025)},
		{"an array that ends within the filler", 5, classes.Header(arrayOfWords, 3)},
		{"an array that ends beyond the top", 5, classes.Header(arrayOfWords, 6)},
		{"a filler that ends beyond the top", 8, classes.Header(filler, 3)},
		{"a filler that ends beyond all cells", 8, classes.Header(filler, 30)},
		{"a filler that ends ahead of the top", 8, classes.Header(filler, 1)},
	} {
		g := example(t)
		g.heap.Put(x.at, x.word)
		isMade(t, x.what, g.heap, classList(), 0, usual(), api.ErrHeap)
	}
	g := example(t)
	g.heap.Put(12, classes.Header(pair, 0))
	g.heap.Put(0, 12)
	isMade(t, "a word too many", g.heap, classList(), 0, usual(), api.ErrHeap)
	g.heap.Put(0, 10)
	isMade(t, "a word too few", g.heap, classList(), 0, usual(), api.ErrHeap)
	g.heap.Put(0, 8)
	isMade(t, "the filler left out", g.heap, classList(), 0, usual(), api.OK)
}

// R2, P16.1: ErrArg goes ahead of ErrHeap.
func TestWhichErrorFirst(t *testing.T) {
	for what, spoil := range map[string]func(top *int, l *[]api.Class, how *api.Collect, heap *cells.Cells){
		"the top's cell": func(top *int, _ *[]api.Class, _ *api.Collect, _ *cells.Cells) { *top = -1 },
		"within":         func(top *int, _ *[]api.Class, _ *api.Collect, heap *cells.Cells) { *top = 1; heap.Put(1, 11) },
		"classes":        func(_ *int, l *[]api.Class, _ *api.Collect, _ *cells.Cells) { (*l)[4].Array = 9 },
		"From":           func(_ *int, _ *[]api.Class, how *api.Collect, _ *cells.Cells) { how.From = 0 },
		"the top":        func(_ *int, _ *[]api.Class, _ *api.Collect, heap *cells.Cells) { heap.Put(0, 21) },
		"Region":         func(_ *int, _ *[]api.Class, how *api.Collect, _ *cells.Cells) { how.Region = 0 },
		"Waste":          func(_ *int, _ *[]api.Class, how *api.Collect, _ *cells.Cells) { how.Waste = -1 },
		"Workers":        func(_ *int, _ *[]api.Class, how *api.Collect, _ *cells.Cells) { how.Workers = 65 },
		"Cap":            func(_ *int, _ *[]api.Class, how *api.Collect, _ *cells.Cells) { how.Cap = 0 },
		"Over":           func(_ *int, _ *[]api.Class, how *api.Collect, _ *cells.Cells) { how.Over = 4097 },
	} {
		for _, wrong := range []bool{false, true} {
			g, l, top, how := example(t), classList(), 0, usual()
			if wrong {
				g.heap.Put(5, 3)
			}
			spoil(&top, &l, &how, g.heap)
			isMade(t, fmt.Sprint(what, ", no blocks: ", wrong), g.heap, l, top, how, api.ErrArg)
		}
	}
}

// P16.1: roots are not looked at when it is made.
func TestRootsAreTakenAsTheyAre(t *testing.T) {
	for _, roots := range [][]int64{nil, {}, {0}, {5, 5}, {-1, 3, 8, 19, 20, math.MaxInt64, math.MinInt64}} {
		isMade(t, fmt.Sprint(roots), example(t).heap, classList(), 0, usual(), api.OK, roots...)
	}
}

// P16.1, P1: whatever numbers there are.
func TestWhateverNumbers(t *testing.T) {
	r := rand.New(rand.NewSource(161))
	number := func(most int) int {
		if r.Intn(9) == 0 {
			return far()[r.Intn(len(far()))]
		}
		return r.Intn(most+2) - 1
	}
	ok, unread := 0, 0
	for range 6000 {
		g := grown(t, r, 60)
		if r.Intn(4) == 0 {
			g.heap.Put(r.Intn(g.heap.Len()), anyWord(r, g.heap.Len()))
		}
		top, how := g.top, api.Collect{From: g.from, Region: number(20), Waste: number(20), Workers: number(66), Cap: number(66), Over: number(4100)}
		if r.Intn(4) == 0 {
			top, how.From = number(g.heap.Len()), number(g.heap.Len())
		}
		need := mark.Need(how.Workers, how.Cap, how.Over)
		want := api.OK
		switch {
		case top < 0 || top >= g.heap.Len() || how.From < 1 || top >= how.From,
			all(g.heap)[top] < int64(how.From) || all(g.heap)[top] > int64(g.heap.Len()),
			how.Region < 1 || how.Waste < 0 || need == 0 || need > api.MaxWords:
			want = api.ErrArg
		default:
			if _, errno := blocks.Walk(g.heap, classList(), how.From, int(all(g.heap)[top])); errno != api.OK {
				want = api.ErrHeap
				unread++
			} else {
				ok++
			}
		}
		isMade(t, fmt.Sprintf("top %d, %+v", top, how), g.heap, classList(), top, how, want, g.roots...)
		if t.Failed() {
			return
		}
	}
	same(t, "many were made", ok > 500, true)
	same(t, "some could not be read", unread > 50, true)
}

// R3: classes and roots that were handed in stay, and may be changed by their
// owner behind the call.
func TestWhatIsHandedIn(t *testing.T) {
	g, h := gapped(t), gapped(t)
	l, roots := classList(), []int64{13, 0, 2}
	c, errno := collect.New(g.heap, l, g.top, g.how(4, 0, 2, 2, 1), roots...)
	same(t, "New", errno, api.OK)
	h.roots = []int64{13, 0, 2}
	alone := made(t, "whose arguments stay", h, h.how(4, 0, 2, 2, 1))
	sameList(t, "classes", l, classList()...)
	sameList(t, "roots", roots, 13, 0, 2)
	spoil := func() {
		clear(l)
		roots[0], roots[1], roots[2] = 77, 2, 6
	}
	spoil()
	sameList(t, "Roots", c.Roots(), 13, 0, 2)
	for n := 0; !c.Done() && n < 1000; n++ {
		c.Step(n % 2)
		alone.step(n % 2)
		spoil()
	}
	sameList(t, "the heap", all(g.heap), all(h.heap)...)
	sameList(t, "Roots at the end", c.Roots(), 9, 0, 2)
	same(t, "Fault", c.Fault(), api.OK)

	g = example(t)
	l, roots = classList(), []int64{5}
	c, _ = collect.New(g.heap, l, 0, usual(), roots...)
	for n := 0; !c.Done() && n < 1000; n++ {
		c.Step(n % 2)
	}
	sameList(t, "Roots, turned", c.Roots(), 1)
	sameList(t, "classes behind the end", l, classList()...)
	sameList(t, "roots behind the end", roots, 5)
}
