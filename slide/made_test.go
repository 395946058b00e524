package slide_test

import (
	"fmt"
	"math/rand"
	"slices"
	"testing"

	"ballast/api"
	"ballast/bits"
	"ballast/cells"
	"ballast/plan"
	"ballast/slide"
)

// isMade holds what New tells; with an error there is no slider, and whatever
// comes of it the heap stays.
func isMade(t *testing.T, what string, heap *cells.Cells, b *bits.Bits, p api.Plan, workers int, want bool) {
	t.Helper()
	words := all(heap)
	s, errno := slide.New(heap, b, p, workers)
	if want {
		same(t, what, errno, api.OK)
	} else {
		same(t, what, errno, api.ErrArg)
	}
	same(t, what+": there is a slider", s != nil, want)
	sameList(t, what+": the heap", all(heap), words...)
	same(t, what+": accesses", heap.Steps(), 0)
}

// P15.1: without heap, without bits, and with bits of another size.
func TestHeapAndBits(t *testing.T) {
	x := example()
	b := x.bits(t)
	p := planned(t, b, args{1, 21, 5, 2})
	isMade(t, "as they are to be", x.heap(), b, p, 2, true)
	isMade(t, "no heap", nil, b, p, 2, false)
	isMade(t, "no bits", x.heap(), nil, p, 2, false)
	isMade(t, "neither", nil, nil, p, 2, false)
	for _, words := range []int{0, 20, 21, 29, 31, 60, api.MaxWords} {
		isMade(t, fmt.Sprint("a heap of ", words, " words"), cells.New(words), b, p, 2, false)
		y := row{words: words}
		if words >= 20 {
			y.blocks = x.blocks
		}
		isMade(t, fmt.Sprint("bits of ", words, " words"), x.heap(), y.bits(t), p, 2, false)
		if words >= 21 {
			isMade(t, fmt.Sprint("both of ", words, " words"), cells.New(words), y.bits(t), p, 2, true)
		}
	}
	isMade(t, "a heap that ends ahead of To", cells.New(20), row{20, x.blocks}.bits(t), p, 2, false)
}

// P15.1: nothing is as good as no words only where it isn't nil.
func TestNoWords(t *testing.T) {
	p := api.Plan{Region: 1}
	isMade(t, "no words", cells.New(0), bits.New(0), p, 1, true)
	isMade(t, "a zero heap and zero bits", &cells.Cells{}, &bits.Bits{}, p, 1, true)
	isMade(t, "no heap", nil, bits.New(0), p, 1, false)
	isMade(t, "no bits", cells.New(0), nil, p, 1, false)
}

// P15.1: how many workers there are.
func TestWorkers(t *testing.T) {
	x := example()
	b := x.bits(t)
	for _, p := range []api.Plan{planned(t, b, args{1, 21, 5, 2}), planned(t, b, args{4, 4, 1, 0})} {
		for workers := -3; workers <= 70; workers++ {
			isMade(t, fmt.Sprint(workers, " workers"), x.heap(), b, p, workers, 1 <= workers && workers <= 64)
		}
		for _, workers := range far() {
			isMade(t, fmt.Sprint(workers, " workers"), x.heap(), b, p, workers, false)
		}
	}
}

// samePlan: a list without elements may be nil.
func samePlan(p, q api.Plan) bool {
	return p.From == q.From && p.To == q.To && p.Region == q.Region && p.Dense == q.Dense && p.Top == q.Top &&
		slices.Equal(p.Live, q.Live) && slices.Equal(p.Ahead, q.Ahead) && slices.Equal(p.Waits, q.Waits) && slices.Equal(p.Takes, q.Takes)
}

// someWaste tells whether Make makes a plan with some waste: all of them are
// tried.
func someWaste(b *bits.Bits, p api.Plan) bool {
	for waste := range b.Words() + 1 {
		made, errno := plan.Make(b, p.From, p.To, p.Region, waste)
		if errno == api.OK && samePlan(made, p) {
			return true
		}
	}
	return false
}

func copied(p api.Plan) api.Plan {
	p.Live, p.Ahead = slices.Clone(p.Live), slices.Clone(p.Ahead)
	p.Waits, p.Takes = slices.Clone(p.Waits), slices.Clone(p.Takes)
	return p
}

// otherNumbers are plans that differ in one of its numbers, outside of lists.
func otherNumbers(p api.Plan) map[string]api.Plan {
	l := map[string]api.Plan{}
	for name, field := range map[string]func(p *api.Plan) *int{
		"From":   func(p *api.Plan) *int { return &p.From },
		"To":     func(p *api.Plan) *int { return &p.To },
		"Region": func(p *api.Plan) *int { return &p.Region },
		"Dense":  func(p *api.Plan) *int { return &p.Dense },
		"Top":    func(p *api.Plan) *int { return &p.Top },
	} {
		was := *field(&p)
		for _, n := range append(far(), 0, was-5, was-2, was-1, was+1, was+2, was+5) {
			q := copied(p)
			*field(&q) = n
			if n != was {
				l[fmt.Sprint(name, " ", n)] = q
			}
		}
	}
	return l
}

// otherLists are lists that differ: in each element, in their length, or by
// being none.
func otherLists[T comparable](l []T, others func(x T) []T, more T) map[string][]T {
	m := map[string][]T{"one more": append(slices.Clone(l), more), "one more in front": append([]T{more}, l...)}
	for i, x := range l {
		for _, other := range others(x) {
			k := slices.Clone(l)
			k[i] = other
			m[fmt.Sprint(i, " is ", other)] = k
		}
	}
	if len(l) > 0 {
		m["nil"], m["empty"], m["one"] = nil, []T{}, l[:1]
		m["one less"], m["one less in front"] = l[:len(l)-1], l[1:]
		m["twice"] = append(slices.Clone(l), l...)
	}
	for name, k := range m {
		if slices.Equal(k, l) {
			delete(m, name)
		}
	}
	return m
}

func numbersBeside(n int) []int { return append(far(), n-1, n+1, n+7, 0, 1) }

func pairsBeside(n [2]int) [][2]int {
	var l [][2]int
	for _, other := range append(far(), n[0]-1, n[0]+1, n[1]-1, n[1]+1, 0) {
		l = append(l, [2]int{other, n[1]}, [2]int{n[0], other})
	}
	return append(l, [2]int{n[1], n[0]}, [2]int{})
}

// P15.1: each field of a plan made otherwise. What stands in a list is never
// all one; another From, To or Region may make the same lists with some waste.
func TestEachFieldOfAPlan(t *testing.T) {
	right := 0
	for _, a := range []args{{1, 21, 5, 2}, {1, 21, 5, 0}, {1, 21, 5, 20}, {0, 30, 7, 3}, {5, 17, 1, 0}, {0, 30, 30, 0}, {4, 4, 3, 0}, {17, 30, 4, 0}} {
		x := example()
		b := x.bits(t)
		p := planned(t, b, a)
		for name, q := range otherNumbers(p) {
			want := someWaste(b, q)
			if want {
				right++
			}
			isMade(t, fmt.Sprintf("%+v: %s", a, name), x.heap(), b, q, 2, want)
		}
		for name, l := range otherLists(p.Live, numbersBeside, 0) {
			q := copied(p)
			q.Live = l
			isMade(t, fmt.Sprintf("%+v: Live %s", a, name), x.heap(), b, q, 2, false)
		}
		for name, l := range otherLists(p.Ahead, numbersBeside, 0) {
			q := copied(p)
			q.Ahead = l
			isMade(t, fmt.Sprintf("%+v: Ahead %s", a, name), x.heap(), b, q, 2, false)
		}
		for name, l := range otherLists(p.Waits, numbersBeside, 0) {
			q := copied(p)
			q.Waits = l
			isMade(t, fmt.Sprintf("%+v: Waits %s", a, name), x.heap(), b, q, 2, false)
		}
		for name, l := range otherLists(p.Takes, pairsBeside, [2]int{}) {
			q := copied(p)
			q.Takes = l
			isMade(t, fmt.Sprintf("%+v: Takes %s", a, name), x.heap(), b, q, 2, false)
		}
		isMade(t, fmt.Sprintf("%+v", a), x.heap(), b, p, 2, true)
	}
	same(t, "some of these plans are others' own", right > 5, true)
}

// P15.1: the empty plan, and one whose heap has no word, wherever that is.
func TestPlansWithoutWords(t *testing.T) {
	x := example()
	b := x.bits(t)
	isMade(t, "the empty plan", x.heap(), b, api.Plan{}, 1, false)
	isMade(t, "the empty plan of no words", cells.New(0), bits.New(0), api.Plan{}, 1, false)
	for at := -1; at <= 31; at++ {
		for _, region := range []int{-1, 0, 1, 5, 1 << 40} {
			p := api.Plan{From: at, To: at, Region: region, Dense: at, Top: at}
			within := 0 <= at && at <= 30 && !slices.Contains([]int{2, 3, 10, 11, 13, 15, 16}, at)
			isMade(t, fmt.Sprint("no word at ", at, ", regions of ", region), x.heap(), b, p, 1, within && region >= 1)
			p.Live, p.Ahead, p.Waits, p.Takes = []int{}, []int{}, []int{}, [][2]int{}
			isMade(t, fmt.Sprint("empty lists at ", at, ", regions of ", region), x.heap(), b, p, 1, within && region >= 1)
		}
	}
	c := made(t, example(), args{4, 4, 5, 0}, 3)
	c.told()
	same(t, "Done", c.slide.Done(), true)
	same(t, "Step", c.step(0), api.End)
}

// P15.1: whatever waste a plan was made with, it is one; so it is of all small
// rows, and of drawn ones.
func TestEachWaste(t *testing.T) {
	hold := func(x row, a args) {
		t.Helper()
		b := x.bits(t)
		isMade(t, fmt.Sprintf("%v, %+v", x, a), x.heap(), b, planned(t, b, a), 1, true)
		if t.Failed() {
			t.FailNow()
		}
	}
	for _, x := range allRows(6) {
		for region := 1; region <= 7; region++ {
			for waste := range 8 {
				hold(x, args{0, 6, region, waste})
			}
		}
	}
	r := rand.New(rand.NewSource(151))
	for range 1500 {
		x := drawn(r, 1+r.Intn(300), 1+r.Intn(1+r.Intn(90)), r.Intn(101))
		a := drawnArgs(r, x)
		hold(x, a)
		for _, waste := range []int{0, 1, x.words, 1 << 40, 1<<63 - 1} {
			a.waste = waste
			hold(x, a)
		}
	}
}

// planAt is a plan with another Dense, all of whose other fields are as the
// marks have them then.
func planAt(x row, a args, dense int) api.Plan {
	p := api.Plan{From: a.from, To: a.to, Region: a.region, Dense: dense, Top: dense}
	lives := x.lives()
	count := func(from, to int) int {
		n := 0
		for at := from; at < to; at++ {
			if lives[at] {
				n++
			}
		}
		return n
	}
	for first := a.from; first < a.to; first += a.region {
		p.Live = append(p.Live, count(first, min(first+a.region, a.to)))
		p.Ahead = append(p.Ahead, count(dense, first))
	}
	p.Top += count(dense, a.to)
	m := modelOf(x, p, 0)
	p.Waits = m.waits()
	for region, takes := range m.takes {
		var t [2]int
		if !m.filled[region] {
			t = [2]int{len(m.goals), 0}
		}
		for other := range takes {
			t = [2]int{min(t[0], other), max(t[1], other+1)}
		}
		p.Takes = append(p.Takes, t)
	}
	return p
}

// P15.1: a plan that is right in itself, but whose Dense no waste makes, is
// none.
func TestDenseOfNoWaste(t *testing.T) {
	right, wrong := 0, 0
	hold := func(x row, a args) {
		t.Helper()
		b := x.bits(t)
		for dense := a.from; dense <= a.to; dense++ {
			p := planAt(x, a, dense)
			want := someWaste(b, p)
			if want {
				right++
			} else {
				wrong++
			}
			isMade(t, fmt.Sprintf("%v, %+v, Dense %d", x, a, dense), x.heap(), b, p, 1, want)
		}
		if t.Failed() {
			t.FailNow()
		}
	}
	for _, x := range allRows(5) {
		for region := 1; region <= 6; region++ {
			hold(x, args{from: 0, to: 5, region: region})
		}
	}
	r := rand.New(rand.NewSource(152))
	for range 150 {
		x := drawn(r, 1+r.Intn(60), 1+r.Intn(1+r.Intn(30)), r.Intn(101))
		hold(x, drawnArgs(r, x))
	}
	same(t, "many were right", right > 1000, true)
	same(t, "many were wrong", wrong > 1000, true)

	x := row{12, []block{{0, 4}, {4, 2}, {6, 2}, {8, 2}}}
	b := x.bits(t)
	isMade(t, "all of the first regions live, and stay", x.heap(), b, planAt(x, args{0, 12, 4, 0}, 8), 1, true)
	isMade(t, "they live, and don't stay", x.heap(), b, planAt(x, args{0, 12, 4, 0}, 4), 1, false)
	isMade(t, "none stays", x.heap(), b, planAt(x, args{0, 12, 4, 0}, 0), 1, false)
	isMade(t, "all stays", x.heap(), b, planAt(x, args{0, 12, 4, 0}, 12), 1, true)
	isMade(t, "Dense within a region", x.heap(), b, planAt(x, args{0, 12, 4, 0}, 10), 1, false)
}

// P15.1: another one's marks: the plan of some bits is none of others.
func TestPlanOfOtherBits(t *testing.T) {
	x := example()
	p := planned(t, x.bits(t), args{1, 21, 5, 2})
	for name, y := range map[string]row{
		"none":                  {30, nil},
		"one less":              {30, x.blocks[1:]},
		"one more":              {30, append([]block{{18, 1}}, x.blocks...)},
		"one that is longer":    {30, []block{{1, 4}, {9, 3}, {14, 3}, {12, 2}}},
		"one elsewhere":         {30, []block{{1, 3}, {9, 3}, {18, 3}, {12, 2}}},
		"one cut off by From":   {30, append([]block{{0, 2}}, x.blocks[1:]...)},
		"one cut off by To":     {30, append([]block{{20, 2}}, x.blocks...)},
		"one that fills a word": {30, append([]block{{4, 2}}, x.blocks...)},
	} {
		isMade(t, name, y.heap(), y.bits(t), p, 2, false)
	}
	for name, y := range map[string]row{
		"the same words by other blocks": {30, []block{{1, 1}, {2, 2}, {9, 8}}},
		"one ahead of From":              {30, append([]block{{0, 1}}, x.blocks...)},
		"one behind To":                  {30, append([]block{{21, 9}}, x.blocks...)},
		"one elsewhere in its region":    {30, []block{{2, 3}, {9, 3}, {14, 3}, {12, 2}}},
	} {
		isMade(t, name, y.heap(), y.bits(t), p, 2, true)
	}
}

// R3: what was handed in stays as it is, and may be changed behind it.
func TestPlanIsItsOwn(t *testing.T) {
	c := made(t, example(), args{1, 21, 5, 2}, 2)
	same(t, "the plan", samePlan(c.p, planned(t, c.bits, args{1, 21, 5, 2})), true)
	spoil := func() {
		for i := range c.p.Live {
			c.p.Live[i], c.p.Ahead[i], c.p.Waits[i], c.p.Takes[i] = -7, -7, -7, [2]int{-7, 99}
		}
	}
	spoil()
	c.told()
	c.end()
	c.told()
	same(t, "Moves", len(c.slide.Moves()), 8)

	c = made(t, example(), args{1, 21, 5, 2}, 2)
	p := copied(c.p)
	c.end()
	same(t, "the plan behind the end", samePlan(c.p, p), true)
}

// P1: whatever numbers a plan has, New ends, without a panic, and tells what
// all wastes tell.
func TestWhateverPlan(t *testing.T) {
	r := rand.New(rand.NewSource(153))
	number := func(most int) int {
		if r.Intn(6) == 0 {
			return far()[r.Intn(len(far()))]
		}
		return r.Intn(most+5) - 2
	}
	for range 3000 {
		x := drawn(r, 1+r.Intn(40), 1+r.Intn(9), r.Intn(101))
		p := api.Plan{From: number(10), To: number(x.words), Region: number(10), Dense: number(x.words), Top: number(x.words)}
		for range r.Intn(9) {
			p.Live, p.Ahead = append(p.Live, number(9)), append(p.Ahead, number(9))
			p.Waits, p.Takes = append(p.Waits, number(3)), append(p.Takes, [2]int{number(5), number(5)})
		}
		b := x.bits(t)
		isMade(t, fmt.Sprintf("%v, %+v", x, p), x.heap(), b, p, 1+r.Intn(64), someWaste(b, p))
	}
}
