package arena_test

import (
	"fmt"
	"math"
	"testing"

	"ballast/api"
	"ballast/arena"
	"ballast/cells"
	"ballast/classes"
)

// The cells of this file: the top, some around it, and the heap, with some
// behind its end.
const (
	top   = 2
	end   = 37
	whole = 40
)

// kind is what a step does; or other is what somebody else does to the top.
type kind string

const (
	none   kind = "no access"
	reads  kind = "a read of the top"
	stores kind = "a filler's header"
	swaps  kind = "a swap of the top"
	fails  kind = "a swap that fails"
	other  kind = "somebody else"
)

// event is one step of an ask, and the word that it leaves in its cell.
type event struct {
	kind kind
	at   int
	word int64
}

func no() event              { return event{kind: none} }
func read() event            { return event{kind: reads, at: top} }
func swap(to int) event      { return event{swaps, top, int64(to)} }
func fail() event            { return event{kind: fails, at: top} }
func elsewhere(to int) event { return event{other, top, int64(to)} }

// fill is a filler's header where so many words become one.
func fill(at, words int) event { return event{stores, at, classes.Header(0, words-1)} }

func events(l ...event) []event { return l }

// way is one way of an ask through its steps.
type way struct {
	name   string
	buffer int // the arena's
	top    int64
	from   arena.Buffer // the ask's, ahead of it
	size   int
	steps  []event
	want   told
	behind arena.Buffer
}

func span(from, to int) arena.Buffer { return arena.Buffer{From: from, To: to} }

func outOfBuffers() []way {
	l := []way{
		{"it has more", 8, 5, span(10, 20), 3, events(no()), told{10, api.OK}, span(13, 20)},
		{"it has one more", 8, 5, span(10, 14), 3, events(no()), told{10, api.OK}, span(13, 14)},
		{"it just has as much", 8, 5, span(10, 13), 3, events(no()), told{10, api.OK}, span(13, 13)},
		{"one word of one", 8, 5, span(10, 11), 1, events(no()), told{10, api.OK}, span(11, 11)},
		{"what would be large, if it were not there", 8, 5, span(10, 20), 9, events(no()), told{10, api.OK}, span(19, 20)},
		{"all of it, and large", 8, 5, span(10, 20), 10, events(no()), told{10, api.OK}, span(20, 20)},
		{"the heap is full", 8, end, span(36, end), 1, events(no()), told{36, api.OK}, span(end, end)},
		{"the top is nowhere", 8, -7, span(10, 20), 2, events(no()), told{10, api.OK}, span(12, 20)},
		{"it begins at 0", 8, 5, span(0, 3), 2, events(no()), told{0, api.OK}, span(2, 3)},
		{"as much as may be asked for", 8, 5, span(1, 65537), 65536, events(no()), told{1, api.OK}, span(65537, 65537)},
	}
	for _, size := range append(far(), 0, -3) {
		for _, from := range []arena.Buffer{span(0, 0), span(10, 11), span(10, 20)} {
			l = append(l, way{fmt.Sprint("a size of ", size), 8, 5, from, size, events(no()), told{0, api.ErrSize}, from})
		}
	}
	return append(l, way{"a size beyond all, that the buffer has", 8, 5, span(1, 70000), 65537, events(no()), told{0, api.ErrSize}, span(1, 70000)})
}

func newBuffers() []way {
	l := []way{
		{"an empty buffer", 8, 5, span(0, 0), 3, events(read(), swap(13)), told{5, api.OK}, span(8, 13)},
		{"a buffer that has none left", 8, 5, span(12, 12), 3, events(read(), swap(13)), told{5, api.OK}, span(8, 13)},
		{"a buffer that ends ahead of where it begins", 8, 5, span(12, 9), 3, events(read(), swap(13)), told{5, api.OK}, span(8, 13)},
		{"one word", 8, 5, span(0, 0), 1, events(read(), swap(13)), told{5, api.OK}, span(6, 13)},
		{"just not large", 8, 5, span(0, 0), 4, events(read(), swap(13)), told{5, api.OK}, span(9, 13)},
		{"just not large, of an odd buffer", 9, 5, span(0, 0), 4, events(read(), swap(14)), told{5, api.OK}, span(9, 14)},
		{"the least buffer", 2, 5, span(0, 0), 1, events(read(), swap(7)), told{5, api.OK}, span(6, 7)},
		{"a buffer of three", 3, 5, span(0, 0), 1, events(read(), swap(8)), told{5, api.OK}, span(6, 8)},
		{"the most buffer: all that is left", 4096, 5, span(0, 0), 3, events(read(), swap(end)), told{5, api.OK}, span(8, end)},
		{"the top is 0", 8, 0, span(0, 0), 3, events(read(), swap(8)), told{0, api.OK}, span(3, 8)},
		{"just a buffer is left", 8, 29, span(0, 0), 3, events(read(), swap(end)), told{29, api.OK}, span(32, end)},
		{"one word less is left", 8, 30, span(0, 0), 3, events(read(), swap(end)), told{30, api.OK}, span(33, end)},
		{"one word more than the size is left", 8, 33, span(0, 0), 3, events(read(), swap(end)), told{33, api.OK}, span(36, end)},
		{"just the size is left", 8, 34, span(0, 0), 3, events(read(), swap(end)), told{34, api.OK}, span(end, end)},
		{"one word less than the size is left", 8, 35, span(0, 0), 3, events(read()), told{0, api.ErrFull}, span(0, 0)},
		{"the last word", 8, 36, span(0, 0), 1, events(read(), swap(end)), told{36, api.OK}, span(end, end)},

		{"words left become a filler", 8, 20, span(10, 12), 3, events(fill(10, 2), read(), swap(28)), told{20, api.OK}, span(23, 28)},
		{"one word left becomes one", 8, 20, span(19, 20), 2, events(fill(19, 1), read(), swap(28)), told{20, api.OK}, span(22, 28)},
		{"as many as can be left", 8, 20, span(10, 13), 4, events(fill(10, 3), read(), swap(28)), told{20, api.OK}, span(24, 28)},
		{"the top moves ahead of the read", 8, 20, span(10, 12), 3, events(fill(10, 2), elsewhere(25), read(), swap(33)), told{25, api.OK}, span(28, 33)},
		{"a filler, and the heap is full", 8, 35, span(10, 12), 3, events(fill(10, 2), read()), told{0, api.ErrFull}, span(0, 0)},
		{"a filler, and the heap comes to be full", 8, 20, span(10, 12), 3, events(fill(10, 2), elsewhere(35), read()), told{0, api.ErrFull}, span(0, 0)},
		{"a filler, and a swap that fails", 8, 20, span(10, 12), 3, events(fill(10, 2), read(), elsewhere(24), fail(), read(), swap(32)), told{24, api.OK}, span(27, 32)},
	}
	for _, word := range nowhere() {
		for _, size := range []int{1, 3, 4} {
			l = append(l, way{fmt.Sprint("a top of ", word), 8, word, span(0, 0), size, events(read()), told{0, api.ErrFull}, span(0, 0)})
		}
	}
	return l
}

// nowhere are tops above which there is no word.
func nowhere() []int64 {
	return []int64{end, end + 1, whole, whole + 1, 65536, 1 << 32, 1<<32 + 5, -1, -8, -1 << 32, math.MinInt64, math.MinInt64 + 1, math.MaxInt64, math.MaxInt64 - 1}
}

func large() []way {
	l := []way{
		{"just large", 8, 5, span(0, 0), 5, events(read(), swap(10)), told{5, api.OK}, span(0, 0)},
		{"just large, of an odd buffer", 9, 5, span(0, 0), 5, events(read(), swap(10)), told{5, api.OK}, span(0, 0)},
		{"as much as a buffer", 8, 5, span(0, 0), 8, events(read(), swap(13)), told{5, api.OK}, span(0, 0)},
		{"more than a buffer", 8, 5, span(0, 0), 9, events(read(), swap(14)), told{5, api.OK}, span(0, 0)},
		{"of the least buffer", 2, 5, span(0, 0), 2, events(read(), swap(7)), told{5, api.OK}, span(0, 0)},
		{"of a buffer of three", 3, 5, span(0, 0), 2, events(read(), swap(7)), told{5, api.OK}, span(0, 0)},
		{"the buffer has words left", 8, 20, span(10, 14), 5, events(read(), swap(25)), told{20, api.OK}, span(10, 14)},
		{"it has nearly as much", 8, 20, span(10, 16), 7, events(read(), swap(27)), told{20, api.OK}, span(10, 16)},
		{"it has none left", 8, 20, span(12, 12), 5, events(read(), swap(25)), told{20, api.OK}, span(12, 12)},
		{"the top is 0", 8, 0, span(0, 0), end, events(read(), swap(end)), told{0, api.OK}, span(0, 0)},
		{"just to the end", 8, 32, span(0, 0), 5, events(read(), swap(end)), told{32, api.OK}, span(0, 0)},
		{"one word beyond it", 8, 33, span(0, 0), 5, events(read()), told{0, api.ErrFull}, span(0, 0)},
		{"one word beyond it, of what the cells have", 8, 5, span(0, 0), end - 5 + 1, events(read()), told{0, api.ErrFull}, span(0, 0)},
		{"far beyond it", 8, 5, span(0, 0), 65536, events(read()), told{0, api.ErrFull}, span(0, 0)},
		{"the heap is full, and the buffer has words left", 8, 33, span(10, 14), 5, events(read()), told{0, api.ErrFull}, span(10, 14)},
		{"a swap that fails leaves the buffer as it is", 8, 20, span(10, 14), 5, events(read(), elsewhere(28), fail(), read(), swap(33)), told{28, api.OK}, span(10, 14)},
	}
	for _, word := range nowhere() {
		for _, size := range []int{5, 8, 65535, 65536} {
			l = append(l, way{fmt.Sprint("a top of ", word), 8, word, span(10, 12), size, events(read()), told{0, api.ErrFull}, span(10, 12)})
		}
	}
	return l
}

func failing() []way {
	return []way{
		{"once", 8, 5, span(0, 0), 3, events(read(), elsewhere(6), fail(), read(), swap(14)), told{6, api.OK}, span(9, 14)},
		{"again", 8, 5, span(0, 0), 3, events(read(), elsewhere(13), fail(), read(), elsewhere(16), fail(), read(), swap(24)), told{16, api.OK}, span(19, 24)},
		{"again and again", 8, 5, span(0, 0), 3,
			events(read(), elsewhere(6), fail(), read(), elsewhere(5), fail(), read(), elsewhere(7), fail(), read(), elsewhere(8), fail(), read(), swap(16)), told{8, api.OK}, span(11, 16)},
		{"large, again", 8, 5, span(0, 0), 6, events(read(), elsewhere(13), fail(), read(), elsewhere(16), fail(), read(), swap(22)), told{16, api.OK}, span(0, 0)},
		{"the top goes down", 8, 30, span(0, 0), 3, events(read(), elsewhere(5), fail(), read(), swap(13)), told{5, api.OK}, span(8, 13)},
		{"it moves behind that", 8, 5, span(0, 0), 3, events(read(), elsewhere(6), fail(), elsewhere(9), read(), swap(17)), told{9, api.OK}, span(12, 17)},
		{"it moves and comes back", 8, 5, span(0, 0), 3, events(read(), elsewhere(6), elsewhere(5), swap(13)), told{5, api.OK}, span(8, 13)},
		{"it comes back behind that", 8, 5, span(0, 0), 3, events(read(), elsewhere(6), fail(), elsewhere(5), read(), swap(13)), told{5, api.OK}, span(8, 13)},
		{"less than a buffer is left behind that", 8, 5, span(0, 0), 3, events(read(), elsewhere(32), fail(), read(), swap(end)), told{32, api.OK}, span(35, end)},
		{"more than the last words is left behind that", 8, 32, span(0, 0), 3, events(read(), elsewhere(6), fail(), read(), swap(14)), told{6, api.OK}, span(9, 14)},
		{"nothing is left behind that", 8, 5, span(0, 0), 3, events(read(), elsewhere(end), fail(), read()), told{0, api.ErrFull}, span(0, 0)},
		{"too little is left behind that", 8, 5, span(0, 0), 3, events(read(), elsewhere(35), fail(), read()), told{0, api.ErrFull}, span(0, 0)},
		{"just enough is left behind that", 8, 5, span(0, 0), 3, events(read(), elsewhere(34), fail(), read(), swap(end)), told{34, api.OK}, span(end, end)},
		{"large, and just too little is left", 8, 5, span(0, 0), 6, events(read(), elsewhere(32), fail(), read()), told{0, api.ErrFull}, span(0, 0)},
		{"the top is nowhere behind that", 8, 5, span(0, 0), 3, events(read(), elsewhere(-1), fail(), read()), told{0, api.ErrFull}, span(0, 0)},
		{"one that was full is not asked again", 8, 36, span(0, 0), 3, events(read()), told{0, api.ErrFull}, span(0, 0)},
	}
}

// hidden is memory whose cells, but for the one that a step may touch, hold
// misleading words while it does.
type hidden struct {
	c     *cells.Cells
	words []int64 // as they truly are
}

// during does a step; it tells what it told, and how many accesses it made.
func (h *hidden) during(t *testing.T, what string, e event, step func() bool) (bool, int) {
	t.Helper()
	shown := make([]int64, whole)
	for i := range shown {
		shown[i] = int64(11 + i%5)
	}
	if e.kind != none {
		shown[e.at] = h.words[e.at]
	}
	h.c.Put(0, shown...)
	ahead := h.c.Steps()
	done := step()
	if e.kind == stores || e.kind == swaps {
		shown[e.at], h.words[e.at] = e.word, e.word
	}
	sameList(t, what+": cells", h.c.Words(0, whole), shown)
	h.c.Put(0, h.words...)
	return done, h.c.Steps() - ahead
}

// accesses is how many a step of that kind makes.
func (e event) accesses() int {
	if e.kind == none {
		return 0
	}
	return 1
}

// goTheWay has an ask go through its steps.
func goTheWay(t *testing.T, group string, w way) {
	t.Helper()
	c := cells.New(whole)
	c.Put(top, w.top)
	h := &hidden{c, c.Words(0, whole)}
	b := w.from
	k := made(t, c, top, end, w.buffer).Ask(&b, w.size)
	want := w.from
	for i, e := range w.steps {
		what := fmt.Sprintf("%s, %s: step %d, %s", group, w.name, i, e.kind)
		if e.kind == other {
			h.words[e.at] = e.word
			c.Put(e.at, e.word)
			continue
		}
		same(t, what+": Done ahead of it", k.Done(), false)
		same(t, what+": At ahead of it", value(k), told{0, api.ErrState})
		done, accesses := h.during(t, what, e, k.Step)
		last := i == len(w.steps)-1
		if e.kind == stores {
			want = arena.Buffer{}
		}
		if last {
			want = w.behind
		}
		same(t, what+": Step", done, last)
		same(t, what+": Done", k.Done(), last)
		same(t, what+": accesses", accesses, e.accesses())
		same(t, what+": the buffer", b, want)
	}
	doneForGood(t, group+", "+w.name, w, c, &b, k)
}

// doneForGood: once it is done Step does nothing, whatever has changed.
func doneForGood(t *testing.T, what string, w way, c *cells.Cells, b *arena.Buffer, k *arena.Ask) {
	t.Helper()
	same(t, what+": At", value(k), w.want)
	ahead := c.Steps()
	for _, word := range []int64{1, 5, end, -1} {
		*b = span(10, 12)
		c.Put(top, word)
		words := c.Words(0, whole)
		same(t, what+": Step behind the end", k.Step(), true)
		same(t, what+": Done behind the end", k.Done(), true)
		same(t, what+": At behind the end", value(k), w.want)
		same(t, what+": the buffer behind the end", *b, span(10, 12))
		sameList(t, what+": cells behind the end", c.Words(0, whole), words)
	}
	same(t, what+": accesses behind the end", c.Steps(), ahead)
}

// P8.2: each step by itself: which access it is, and what it tells.
func TestSteps(t *testing.T) {
	for group, l := range map[string][]way{"out of a buffer": outOfBuffers(), "a new buffer": newBuffers(), "large": large(), "a swap that fails": failing()} {
		for _, w := range l {
			goTheWay(t, group, w)
		}
	}
}

// P8.2: which asks are large, of each buffer that may be: those leave it as
// it was, and take no word beyond their size.
func TestWhichAreLarge(t *testing.T) {
	for _, buffer := range []int{2, 3, 4, 5, 6, 7, 8, 9, 100, 101, 1024, 4095, 4096} {
		for _, size := range []int{1, 2, 3, 4, 5, buffer/2 - 1, buffer / 2, buffer/2 + 1, buffer - 1, buffer, buffer + 1, 2 * buffer} {
			if size < 1 {
				continue
			}
			c := cells.New(api.MaxWords)
			c.Put(0, 1)
			b := arena.Buffer{}
			a := made(t, c, 0, c.Len(), buffer)
			got, steps := goOn(a.Ask(&b, size))
			what := fmt.Sprintf("%d of a buffer of %d", size, buffer)
			same(t, what, got, told{1, api.OK})
			same(t, what+": steps", steps, 2)
			taken := api.MaxWords - 1 - a.Left()
			if 2*size > buffer {
				same(t, what+": words", taken, size)
				same(t, what+": the buffer", b, span(0, 0))
				continue
			}
			same(t, what+": words", taken, buffer)
			same(t, what+": the buffer", b, span(1+size, 1+buffer))
		}
	}
}

// P8.2, R5: as much as may be asked for, of as much memory as there may be.
func TestAllWords(t *testing.T) {
	c := cells.New(api.MaxWords)
	a := made(t, c, api.MaxWords-1, api.MaxWords, 4096)
	got, _ := goOn(a.Ask(nil, 65536))
	same(t, "all words", got, told{0, api.OK})
	same(t, "Left", a.Left(), 0)
	c.Put(api.MaxWords-1, 1)
	got, _ = goOn(a.Ask(nil, 65536))
	same(t, "one too many", got, told{0, api.ErrFull})
	got, _ = goOn(a.Ask(nil, 65535))
	same(t, "all but one", got, told{1, api.OK})
	c.Put(api.MaxWords-1, 0)
	got, _ = goOn(a.Ask(nil, 65537))
	same(t, "beyond the limit", got, told{0, api.ErrSize})
}

// P8.2: a nil buffer counts as an empty one that is forgotten.
func TestNoBuffer(t *testing.T) {
	c := cells.New(whole)
	c.Put(top, 5)
	a := made(t, c, top, end, 8)
	for _, x := range []struct {
		size  int
		want  told
		steps int
		left  int
	}{
		{3, told{5, api.OK}, 2, 24}, {3, told{13, api.OK}, 2, 16}, {5, told{21, api.OK}, 2, 11}, {0, told{0, api.ErrSize}, 1, 11},
		{4, told{26, api.OK}, 2, 3}, {4, told{0, api.ErrFull}, 1, 3}, {3, told{34, api.OK}, 2, 0}, {1, told{0, api.ErrFull}, 1, 0},
	} {
		got, steps := goOn(a.Ask(nil, x.size))
		same(t, fmt.Sprint(x, ": At"), got, x.want)
		same(t, fmt.Sprint(x, ": steps"), steps, x.steps)
		same(t, fmt.Sprint(x, ": Left"), a.Left(), x.left)
	}
	sameList(t, "cells", c.Words(top+1, whole), make([]int64, whole-top-1))
}

// P8.2: an ask looks at its buffer when it takes its first step, not when it
// is made.
func TestBufferAtTheFirstStep(t *testing.T) {
	c := cells.New(whole)
	c.Put(top, 5)
	a := made(t, c, top, end, 8)
	b := arena.Buffer{}
	x, y, z := a.Ask(&b, 3), a.Ask(&b, 3), a.Ask(&b, 3)
	for i, k := range []*arena.Ask{x, y, z} {
		got, steps := goOn(k)
		same(t, fmt.Sprint("ask ", i), got, []told{{5, api.OK}, {8, api.OK}, {13, api.OK}}[i])
		same(t, fmt.Sprint("ask ", i, ": steps"), steps, []int{2, 1, 3}[i])
	}
	same(t, "the buffer", b, span(16, 21))
}

// P8.2: asks of several buffers don't touch each other's.
func TestOtherBuffers(t *testing.T) {
	c := cells.New(whole)
	c.Put(top, 5)
	a := made(t, c, top, end, 8)
	b, o := arena.Buffer{}, span(30, 33)
	goOn(a.Ask(&b, 3))
	same(t, "one", b, span(8, 13))
	same(t, "the other", o, span(30, 33))
	goOn(a.Ask(&o, 4))
	same(t, "one", b, span(8, 13))
	same(t, "the other", o, span(17, 21))
}

// P1: a buffer is its owner's, who may set it to any numbers: an ask ends,
// and no cell but the buffer's first one and the top is touched.
func TestBuffersOfAnyNumbers(t *testing.T) {
	numbers := append(far(), 0, 1, 12, end, whole)
	for _, from := range numbers {
		for _, to := range numbers {
			for _, size := range []int{1, 3, 5} {
				// Where the numbers are further apart than an int tells,
				// their distance comes out below 0.
				n := to - from
				if to > from && (n < 0 || n >= size) {
					anyTaken(t, span(from, to), size)
				} else {
					anyTooSmall(t, span(from, to), size)
				}
			}
		}
	}
}

// anyTaken: the buffer has as much.
func anyTaken(t *testing.T, from arena.Buffer, size int) {
	t.Helper()
	c := cells.New(whole)
	b := from
	got, steps := goOn(made(t, c, top, end, 8).Ask(&b, size))
	what := fmt.Sprintf("%d of %v", size, from)
	same(t, what, got, told{from.From, api.OK})
	same(t, what+": steps", steps, 1)
	same(t, what+": accesses", c.Steps(), 0)
	same(t, what+": the buffer", b, span(from.From+size, from.To))
	sameList(t, what+": cells", c.Words(0, whole), make([]int64, whole))
}

// anyTooSmall: the buffer has fewer words, or none.
func anyTooSmall(t *testing.T, from arena.Buffer, size int) {
	t.Helper()
	c := cells.New(whole)
	c.Put(top, 5)
	b := from
	got, steps := goOn(made(t, c, top, end, 8).Ask(&b, size))
	words, behind, want := make([]int64, whole), span(5+size, 13), 2
	words[top] = 13
	if from.From < from.To && size < 5 {
		want = 3
		if from.From >= 0 && from.From < whole {
			words[from.From] = classes.Header(0, from.To-from.From-1)
		}
	}
	if size == 5 {
		words[top], behind = 10, from
	}
	what := fmt.Sprintf("%d of %v", size, from)
	same(t, what, got, told{5, api.OK})
	same(t, what+": steps", steps, want)
	same(t, what+": the buffer", b, behind)
	sameList(t, what+": cells", c.Words(0, whole), words)
}

// R3: an ask that is copied goes on by itself: its steps are the arena's.
func TestCopiedAsk(t *testing.T) {
	c := cells.New(whole)
	c.Put(top, 5)
	a := made(t, c, top, end, 8)
	k := a.Ask(&arena.Buffer{}, 3)
	k.Step()
	copied := *k
	got, steps := goOn(&copied)
	same(t, "the copy", got, told{5, api.OK})
	same(t, "its steps", steps, 1)
	same(t, "the first one", k.Done(), false)
	got, steps = goOn(k)
	same(t, "the first one", got, told{13, api.OK})
	same(t, "its steps", steps, 3)
	same(t, "the copy", value(&copied), told{5, api.OK})
}
