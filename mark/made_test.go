package mark_test

import (
	"fmt"
	"math"
	"slices"
	"testing"

	"ballast/api"
	"ballast/bits"
	"ballast/blocks"
	"ballast/cells"
	"ballast/deque"
	"ballast/mark"
)

func same[T comparable](t *testing.T, what string, got, want T) {
	t.Helper()
	if got != want {
		t.Errorf("%s: %v, want %v", what, got, want)
	}
}

func sameList[T comparable](t *testing.T, what string, got, want []T) {
	t.Helper()
	if !slices.Equal(got, want) {
		t.Errorf("%s: %v, want %v", what, got, want)
	}
}

// classList are those of the chapters' examples, one of a header alone, and
// one of a reference alone.
func classList() []api.Class {
	return []api.Class{{Refs: 2, Words: 1}, {Array: 1}, {Array: 2}, {}, {Refs: 1}}
}

const (
	pair = 1 + iota
	arrayOfRefs
	arrayOfWords
	bare
	link
)

// heapOf is a heap of blocks of these classes and lengths, one behind the
// other from word 1 on, and their addresses.
func heapOf(t *testing.T, l ...[2]int) (*cells.Cells, []int64) {
	t.Helper()
	c := cells.New(api.MaxWords)
	at, places := 1, []int64{}
	for _, x := range l {
		size, errno := blocks.Lay(c, classList(), at, x[0], x[1])
		if errno != api.OK {
			t.Fatalf("Lay %v at %d: %v", x, at, errno)
		}
		places = append(places, int64(at))
		at += size
	}
	heap := cells.New(at)
	heap.Put(0, c.Words(0, at)...)
	return heap, places
}

// bares are so many objects of a header alone: the first one stands at 1, the
// next one at 2 and so on.
func bares(t *testing.T, n int) *cells.Cells {
	heap, _ := heapOf(t, slices.Repeat([][2]int{{bare, 0}}, n)...)
	return heap
}

// gang is a marker with all that it was made of.
type gang struct {
	t             *testing.T
	what          string
	heap, control *cells.Cells
	bits          *bits.Bits
	*mark.Marker
	workers, cap, over int
}

func made(t *testing.T, what string, heap *cells.Cells, workers, cap, over int) *gang {
	t.Helper()
	g := &gang{t: t, what: what, heap: heap, bits: bits.New(heap.Len()), workers: workers, cap: cap, over: over}
	g.control = cells.New(mark.Need(workers, cap, over))
	var errno api.Errno
	g.Marker, errno = mark.New(heap, classList(), g.bits, g.control, workers, cap, over)
	if g.Marker == nil || errno != api.OK {
		t.Fatalf("%s: New(%d, %d, %d): %v, %v", what, workers, cap, over, g.Marker, errno)
	}
	return g
}

func (g *gang) accesses() int { return g.heap.Steps() + g.control.Steps() }

func (g *gang) marks() int { return g.bits.Count(0, g.heap.Len()) }

// marked is where marked blocks begin.
func (g *gang) marked() []int {
	var l []int
	for at := g.bits.Next(0, g.heap.Len()); at >= 0; at = g.bits.Next(at+1, g.heap.Len()) {
		l = append(l, at)
	}
	return l
}

// Step holds P11.2 at each step: one access, or one block marked, at most.
func (g *gang) Step(worker int) int {
	g.t.Helper()
	accesses, marks := g.accesses(), g.marks()
	told := g.Marker.Step(worker)
	accesses, marks = g.accesses()-accesses, g.marks()-marks
	if accesses < 0 || marks < 0 || accesses+marks > 1 {
		g.t.Fatalf("%s: a step of worker %d had %d accesses and marked %d blocks", g.what, worker, accesses, marks)
	}
	if told != api.Go && told != api.End {
		g.t.Fatalf("%s: a step of worker %d told %d", g.what, worker, told)
	}
	return told
}

// steps has one worker do so many steps.
func (g *gang) steps(worker, n int) {
	g.t.Helper()
	for range n {
		g.Step(worker)
	}
}

// most is how many steps by turns P11.4 allows.
func (g *gang) most() int {
	return (g.workers + 2) * (g.workers + 2) * (100 + 40*g.heap.Len())
}

// end goes by turns till all have ended, and tells how many steps that took.
func (g *gang) end() int {
	g.t.Helper()
	n := 0
	for ; !g.Done(); n++ {
		if n >= g.most() {
			g.t.Fatalf("%s: not all have ended within %d steps by turns", g.what, n)
		}
		g.Step(n % g.workers)
	}
	return n
}

// deque is a worker's, as control has it.
func (g *gang) deque(worker int) *deque.Deque {
	g.t.Helper()
	d, errno := deque.New(g.control, 1+worker*deque.Need(g.cap, g.over), g.cap, g.over)
	if errno != api.OK {
		g.t.Fatalf("%s: deque %d: %v", g.what, worker, errno)
	}
	return d
}

func (g *gang) idle() int64 { return g.control.Words(0, 1)[0] }

func far() []int {
	return []int{math.MinInt, math.MinInt + 1, -1 << 40, -1 << 32, -65537, -64, -1, 65536, 65537, 1 << 32, 1<<32 + 1, 1 << 40, 1 << 58, 1 << 62, math.MaxInt - 1, math.MaxInt}
}

// P11.1: one cell, and a deque for each worker.
func TestNeed(t *testing.T) {
	for _, x := range []struct{ workers, cap, over, want int }{
		{1, 1, 0, 6}, {2, 1, 1, 13}, {1, 2, 3, 10}, {4, 2, 3, 37}, {3, 64, 0, 205}, {1, 64, 4096, 4165}, {64, 1, 0, 321}, {64, 64, 4096, 266497},
		{0, 1, 1, 0}, {-1, 1, 1, 0}, {65, 1, 1, 0}, {66, 64, 4096, 0},
		{1, 0, 0, 0}, {1, 65, 0, 0}, {1, 1, -1, 0}, {1, 1, 4097, 0}, {64, 0, 5, 0}, {64, 65, 4096, 0}, {0, 0, 0, 0},
	} {
		same(t, fmt.Sprint("Need ", x), mark.Need(x.workers, x.cap, x.over), x.want)
	}
	for workers := -3; workers <= 70; workers++ {
		for _, x := range [][2]int{{1, 0}, {5, 7}, {64, 4096}, {0, 0}, {65, 0}, {1, 4097}} {
			want, each := 0, deque.Need(x[0], x[1])
			if workers >= 1 && workers <= 64 && each > 0 {
				want = 1 + workers*each
			}
			same(t, fmt.Sprint("Need ", workers, x), mark.Need(workers, x[0], x[1]), want)
		}
	}
}

// P11.1, P1: numbers far from all that may be.
func TestNeedFar(t *testing.T) {
	for _, n := range far() {
		for _, x := range [][3]int{{n, 1, 1}, {2, n, 1}, {2, 1, n}, {n, n, 1}, {n, 1, n}, {1, n, n}, {n, n, n}} {
			same(t, fmt.Sprint("Need ", x), mark.Need(x[0], x[1], x[2]), 0)
			m, errno := mark.New(cells.New(5), classList(), bits.New(5), cells.New(api.MaxWords), x[0], x[1], x[2])
			if m != nil || errno != api.ErrArg {
				t.Errorf("New %v: %v, %v", x, m, errno)
			}
		}
	}
}

// P11.1: what New does not take, and what is just enough. With an error
// control is as it was.
func TestNewOfArguments(t *testing.T) {
	heap := func() *cells.Cells { return cells.New(20) }
	for _, x := range []struct {
		what               string
		heap               *cells.Cells
		bits               *bits.Bits
		control            *cells.Cells
		workers, cap, over int
		want               api.Errno
	}{
		{"all there", heap(), bits.New(20), cells.New(13), 2, 1, 1, api.OK},
		{"more control than that", heap(), bits.New(20), cells.New(14), 2, 1, 1, api.OK},
		{"most control", heap(), bits.New(20), cells.New(api.MaxWords), 15, 64, 4096, api.OK},
		{"no heap", nil, bits.New(20), cells.New(13), 2, 1, 1, api.ErrArg},
		{"no heap, bits without words", nil, bits.New(0), cells.New(13), 2, 1, 1, api.ErrArg},
		{"no heap, no bits", nil, nil, cells.New(13), 2, 1, 1, api.ErrArg},
		{"no bits", heap(), nil, cells.New(13), 2, 1, 1, api.ErrArg},
		{"zero bits", heap(), &bits.Bits{}, cells.New(13), 2, 1, 1, api.ErrArg},
		{"bits of one word less", heap(), bits.New(19), cells.New(13), 2, 1, 1, api.ErrArg},
		{"bits of one word more", heap(), bits.New(21), cells.New(13), 2, 1, 1, api.ErrArg},
		{"no control", heap(), bits.New(20), nil, 2, 1, 1, api.ErrArg},
		{"zero control", heap(), bits.New(20), &cells.Cells{}, 2, 1, 1, api.ErrArg},
		{"control of one cell less", heap(), bits.New(20), cells.New(12), 2, 1, 1, api.ErrArg},
		{"control of what no memory has", heap(), bits.New(20), cells.New(api.MaxWords), 16, 64, 4096, api.ErrArg},
		{"no worker", heap(), bits.New(20), cells.New(13), 0, 1, 1, api.ErrArg},
		{"65 workers", heap(), bits.New(20), cells.New(api.MaxWords), 65, 1, 1, api.ErrArg},
		{"64 workers", heap(), bits.New(20), cells.New(api.MaxWords), 64, 1, 1, api.OK},
		{"no slot", heap(), bits.New(20), cells.New(99), 2, 0, 1, api.ErrArg},
		{"65 slots", heap(), bits.New(20), cells.New(api.MaxWords), 2, 65, 1, api.ErrArg},
		{"a stack below 0", heap(), bits.New(20), cells.New(99), 2, 1, -1, api.ErrArg},
		{"a stack of 4097", heap(), bits.New(20), cells.New(api.MaxWords), 2, 1, 4097, api.ErrArg},
		{"a heap without cells", cells.New(0), bits.New(0), cells.New(13), 2, 1, 1, api.OK},
		{"a heap without cells, bits of a word", cells.New(0), bits.New(1), cells.New(13), 2, 1, 1, api.ErrArg},
		{"the greatest heap", cells.New(api.MaxWords), bits.New(api.MaxWords), cells.New(13), 2, 1, 1, api.OK},
	} {
		x.control.Put(0, slices.Repeat([]int64{7}, x.control.Len())...)
		m, errno := mark.New(x.heap, classList(), x.bits, x.control, x.workers, x.cap, x.over)
		same(t, x.what, errno, x.want)
		same(t, x.what+": is made", m != nil, x.want == api.OK)
		if x.want != api.OK {
			same(t, x.what+": control stays", slices.ContainsFunc(x.control.Words(0, x.control.Len()), func(w int64) bool { return w != 7 }), false)
		}
	}
}

// P11.1: the first Need cells of control are 0, and no other; no access; heap
// and bits stay as they are.
func TestNewEmptiesControl(t *testing.T) {
	for _, x := range []struct{ workers, cap, over, more int }{{1, 1, 0, 0}, {2, 1, 1, 1}, {3, 2, 5, 40}, {64, 3, 2, 7}} {
		what, need := fmt.Sprint(x), mark.Need(x.workers, x.cap, x.over)
		heap, control, b := bares(t, 9), cells.New(need+x.more), bits.New(10)
		b.Mark(3, 2)
		for at := range control.Len() {
			control.Put(at, int64(-1-at))
		}
		words := heap.Words(0, heap.Len())
		m, errno := mark.New(heap, classList(), b, control, x.workers, x.cap, x.over)
		same(t, what+": New", errno, api.OK)
		for at, w := range control.Words(0, control.Len()) {
			want := int64(0)
			if at >= need {
				want = int64(-1 - at)
			}
			same(t, fmt.Sprint(what, ": cell ", at), w, want)
		}
		same(t, what+": accesses", heap.Steps()+control.Steps(), 0)
		sameList(t, what+": the heap", heap.Words(0, heap.Len()), words)
		same(t, what+": what was marked", b.Size(3), 2)
		same(t, what+": marks", b.Count(0, 10), 1)
		sameList(t, what+": Seen", m.Seen(), make([]int, x.workers))
		same(t, what+": Done", m.Done(), false)
		same(t, what+": Fault", m.Fault(), api.OK)
	}
}

// P11.1: the k-th of all roots is in the hands of worker k modulo workers,
// however they are told: a worker that steps alone marks its own, since nobody
// can take anything out of another one's hands.
func TestRootsByTurns(t *testing.T) {
	for _, workers := range []int{1, 2, 3, 5, 64} {
		for _, calls := range [][][]int64{
			nil, {{}}, {{1}}, {{1, 2, 3, 4, 5, 6, 7}}, {{1}, {2}, {3}, {4}, {5}}, {{9, 0, 8}, {}, {0}, {7, 6, 5, 4, 3}, {0, 0, 2, 1}},
		} {
			for worker := range workers {
				g := made(t, fmt.Sprint(calls, ", worker ", worker, " of ", workers), bares(t, 9), workers, 2, 1)
				var want []int
				k := 0
				for _, refs := range calls {
					g.Root(refs...)
					for _, ref := range refs {
						if k%workers == worker && ref != 0 {
							want = append(want, int(ref))
						}
						k++
					}
				}
				same(t, g.what+": accesses of Root", g.accesses(), 0)
				same(t, g.what+": Root marks nothing", g.marks(), 0)
				g.steps(worker, 400)
				slices.Sort(want)
				sameList(t, g.what, g.marked(), want)
				same(t, g.what+": Fault", g.Fault(), api.OK)
			}
		}
	}
}

// P11.1, R5: many roots, the same ones again and again.
func TestManyRoots(t *testing.T) {
	g := made(t, "many roots", bares(t, 300), 3, 2, 1)
	for at := range int64(300) {
		g.Root(slices.Repeat([]int64{at + 1, 0}, 20)...)
	}
	g.end()
	same(t, "marked", g.marks(), 300)
	same(t, "seen", sum(g.Seen()), 300)
	same(t, "Fault", g.Fault(), api.OK)
}

func sum(l []int) int {
	all := 0
	for _, n := range l {
		all += n
	}
	return all
}

// R3: classes and roots that were handed in may be changed by their owner.
func TestWhatIsHandedIn(t *testing.T) {
	heap, at := heapOf(t, [2]int{pair, 0}, [2]int{link, 0}, [2]int{bare, 0})
	heap.Put(2, at[1])
	heap.Put(int(at[1])+1, at[2])
	l, roots, b := classList(), []int64{at[0], 0}, bits.New(heap.Len())
	m, errno := mark.New(heap, l, b, cells.New(mark.Need(1, 1, 1)), 1, 1, 1)
	same(t, "New", errno, api.OK)
	m.Root(roots...)
	sameList(t, "classes", l, classList())
	sameList(t, "roots", roots, []int64{at[0], 0})
	clear(l)
	roots[0], roots[1] = at[2], 77
	for n := 0; !m.Done() && n < 1000; n++ {
		m.Step(0)
	}
	same(t, "marked", b.Count(0, heap.Len()), 3)
	same(t, "live", b.Live(0, heap.Len()), 7)
	same(t, "Fault", m.Fault(), api.OK)
}
