package plan_test

import (
	"fmt"
	"math"
	"math/rand"
	"reflect"
	"slices"
	"testing"

	"ballast/api"
	"ballast/bits"
	"ballast/plan"
)

func same[T comparable](t *testing.T, what string, got, want T) {
	t.Helper()
	if got != want {
		t.Errorf("%s: %v, want %v", what, got, want)
	}
}

func sameList[T comparable](t *testing.T, what string, got, want []T) {
	t.Helper()
	if !slices.Equal(got, want) {
		t.Errorf("%s: %v, want %v", what, got, want)
	}
}

// block is a marked one: where it begins, and how many words it has.
type block struct{ at, size int }

// row are blocks among so many words.
type row struct {
	words  int
	blocks []block
}

func (r row) bits(t *testing.T) *bits.Bits {
	t.Helper()
	b := bits.New(r.words)
	for _, x := range r.blocks {
		if ok, errno := b.Mark(x.at, x.size); !ok || errno != api.OK {
			t.Fatalf("%v: Mark %v: %v, %v", r, x, ok, errno)
		}
	}
	return b
}

// example is the chapter's.
func example() row {
	return row{30, []block{{1, 3}, {9, 3}, {14, 3}, {12, 2}}}
}

// args are what Make is called with beside the bits.
type args struct{ from, to, region, waste int }

// far are numbers at the ends of an int, and beyond all that may be.
func far() []int {
	return []int{math.MinInt, math.MinInt + 1, math.MinInt + 64, -1 << 40, -1 << 32, -65537, -65, -64, -1, 65536, 65537, 1 << 31, 1 << 32, 1<<32 + 1, 1 << 40, 1 << 62, math.MaxInt - 64, math.MaxInt - 1, math.MaxInt}
}

// model is a plan as the chapter's words say it, word by word.
type model struct {
	plan    api.Plan
	errno   api.Errno
	forward map[int]int // of each live word of the heap
	source  map[int]int // of each word that is gone to
	gaps    [][2]int
	spans   [][2]int
}

// owners tells of each word which block has it, or -1.
func (r row) owners() []int {
	l := slices.Repeat([]int{-1}, r.words)
	for i, x := range r.blocks {
		for at := x.at; at < x.at+x.size; at++ {
			l[at] = i
		}
	}
	return l
}

// wrong is P13.1's ErrArg.
func (r row) wrong(a args) bool {
	if a.from < 0 || a.from > a.to || a.to > r.words || a.region < 1 || a.waste < 0 {
		return true
	}
	return slices.ContainsFunc(r.blocks, func(x block) bool {
		last := x.at + x.size - 1
		return x.at < a.from && last >= a.from || x.at < a.to && last >= a.to
	})
}

// count is how many words of a range live.
func count(owners []int, from, to int) int {
	n := 0
	for at := from; at < to; at++ {
		if owners[at] >= 0 {
			n++
		}
	}
	return n
}

func (m *model) regionOf(at int) int {
	return slices.IndexFunc(m.spans, func(s [2]int) bool { return s[0] <= at && at < s[1] })
}

func (m *model) goal(region int) [2]int {
	s := m.spans[region]
	g := [2]int{max(s[0], m.plan.Dense), min(s[1], m.plan.Top)}
	if g[0] >= g[1] {
		return [2]int{}
	}
	return g
}

// modelOf goes over all that P13.1 to P13.3 say, by counting words.
func modelOf(r row, a args) *model {
	m := &model{forward: map[int]int{}, source: map[int]int{}}
	if r.wrong(a) {
		m.errno = api.ErrArg
		return m
	}
	owners := r.owners()
	p := &m.plan
	p.From, p.To, p.Region = a.from, a.to, a.region
	for first := a.from; first < a.to; first = m.spans[len(m.spans)-1][1] {
		end := a.to
		if a.region < a.to-first {
			end = first + a.region
		}
		m.spans = append(m.spans, [2]int{first, end})
		p.Live = append(p.Live, count(owners, first, end))
	}
	p.Dense = m.dense(owners, a.waste)
	if d := p.Dense; 0 < d && d < r.words && owners[d] >= 0 && owners[d-1] == owners[d] {
		x := r.blocks[owners[d]]
		p.Dense = x.at + x.size
	}
	p.Top = p.Dense + count(owners, p.Dense, p.To)
	for _, s := range m.spans {
		p.Ahead = append(p.Ahead, count(owners, p.Dense, s[0]))
	}
	m.words(owners)
	m.taken()
	return m
}

// dense is the end of the greatest k's regions.
func (m *model) dense(owners []int, waste int) int {
	for k := len(m.spans); k > 0; k-- {
		end := m.spans[k-1][1]
		if end-m.plan.From-count(owners, m.plan.From, end) <= waste {
			return end
		}
	}
	return m.plan.From
}

// words tells where each one goes, and which ones are gaps.
func (m *model) words(owners []int) {
	p := m.plan
	next := p.Dense
	for at := p.From; at < p.To; at++ {
		switch {
		case owners[at] >= 0 && at < p.Dense:
			m.forward[at] = at
		case owners[at] >= 0:
			m.forward[at] = next
			next++
		case at < p.Dense && len(m.gaps) > 0 && m.gaps[len(m.gaps)-1][1] == at:
			m.gaps[len(m.gaps)-1][1]++
		case at < p.Dense:
			m.gaps = append(m.gaps, [2]int{at, at + 1})
		}
	}
	for from, to := range m.forward {
		m.source[to] = from
	}
}

// taken fills Takes and Waits.
func (m *model) taken() {
	n := len(m.spans)
	m.plan.Takes, m.plan.Waits = make([][2]int, n), make([]int, n)
	for region := range n {
		g := m.goal(region)
		if g[0] == g[1] {
			continue
		}
		m.plan.Takes[region] = [2]int{m.regionOf(m.source[g[0]]), m.regionOf(m.source[g[1]-1]) + 1}
		from := map[int]int{}
		for at := g[0]; at < g[1]; at++ {
			from[m.regionOf(m.source[at])]++
		}
		for other := range from {
			if other != region {
				m.plan.Waits[other]++
			}
		}
	}
}

// samePlan holds all of a plan's fields; a list without elements may be nil.
func samePlan(t *testing.T, what string, got, want api.Plan) {
	t.Helper()
	same(t, what+": From", got.From, want.From)
	same(t, what+": To", got.To, want.To)
	same(t, what+": Region", got.Region, want.Region)
	same(t, what+": Dense", got.Dense, want.Dense)
	same(t, what+": Top", got.Top, want.Top)
	sameList(t, what+": Live", got.Live, want.Live)
	sameList(t, what+": Ahead", got.Ahead, want.Ahead)
	sameList(t, what+": Waits", got.Waits, want.Waits)
	sameList(t, what+": Takes", got.Takes, want.Takes)
}

// hold makes the plan, and holds it and all that is told of it against the
// model.
func hold(t *testing.T, r row, a args) {
	t.Helper()
	b := r.bits(t)
	what := fmt.Sprintf("%v, %+v", r, a)
	m := modelOf(r, a)
	p, errno := plan.Make(b, a.from, a.to, a.region, a.waste)
	same(t, what+": errno", errno, m.errno)
	if errno != api.OK {
		same(t, what+": a plan beside an error", reflect.DeepEqual(p, api.Plan{}), true)
		return
	}
	samePlan(t, what, p, m.plan)
	holdWords(t, what, m, p, b, r.words)
	holdRegions(t, what, m, p)
	sameList(t, what+": Gaps", plan.Gaps(p, b), m.gaps)
	if t.Failed() {
		t.FailNow()
	}
}

func holdWords(t *testing.T, what string, m *model, p api.Plan, b *bits.Bits, words int) {
	t.Helper()
	for _, at := range append(far(), span(-3, words+3)...) {
		forward, source := m.forward[at], -1
		if from, ok := m.source[at]; ok {
			source = from
		}
		if got := plan.Forward(p, b, at); got != forward {
			t.Errorf("%s: Forward %d: %d, want %d", what, at, got, forward)
		}
		if got := plan.Source(p, b, at); got != source {
			t.Errorf("%s: Source %d: %d, want %d", what, at, got, source)
		}
		if got := plan.Region(p, at); got != m.regionOf(at) {
			t.Errorf("%s: Region %d: %d, want %d", what, at, got, m.regionOf(at))
		}
	}
}

func holdRegions(t *testing.T, what string, m *model, p api.Plan) {
	t.Helper()
	for _, region := range append(far(), span(-2, len(m.spans)+3)...) {
		var wantSpan, wantGoal [2]int
		if 0 <= region && region < len(m.spans) {
			wantSpan, wantGoal = m.spans[region], m.goal(region)
		}
		if got := spanOf(p, region); got != wantSpan {
			t.Errorf("%s: Span %d: %v, want %v", what, region, got, wantSpan)
		}
		if got := goalOf(p, region); got != wantGoal {
			t.Errorf("%s: Goal %d: %v, want %v", what, region, got, wantGoal)
		}
	}
}

func spanOf(p api.Plan, region int) [2]int {
	first, end := plan.Span(p, region)
	return [2]int{first, end}
}

func goalOf(p api.Plan, region int) [2]int {
	from, to := plan.Goal(p, region)
	return [2]int{from, to}
}

// span are the numbers of a range.
func span(from, to int) []int {
	l := make([]int, 0, to-from)
	for n := from; n < to; n++ {
		l = append(l, n)
	}
	return l
}

// allRows are all rows of blocks among so many words.
func allRows(words int) []row {
	var l []row
	var more func(at int, blocks []block)
	more = func(at int, blocks []block) {
		if at == words {
			l = append(l, row{words, slices.Clone(blocks)})
			return
		}
		more(at+1, blocks)
		for size := 1; size <= words-at; size++ {
			more(at+size, append(blocks, block{at, size}))
		}
	}
	more(0, nil)
	return l
}

// drawn is a row of some words, of which about so many of a hundred live.
func drawn(r *rand.Rand, words, most, share int) row {
	x := row{words: words}
	for at := r.Intn(3); at < words; {
		size := min(1+r.Intn(most), words-at)
		if r.Intn(100) < share {
			x.blocks = append(x.blocks, block{at, size})
		}
		at += size
	}
	return x
}

// drawnArgs are for a heap whose ends cut no block, as far as that is found.
func drawnArgs(r *rand.Rand, x row) args {
	owners := x.owners()
	uncut := func(at int) bool {
		return at == 0 || at == x.words || owners[at] < 0 || owners[at] != owners[at-1]
	}
	from, to := r.Intn(1+x.words/4), x.words-r.Intn(1+x.words/4)
	for !uncut(from) {
		from--
	}
	for !uncut(to) {
		to++
	}
	return args{from, to, 1 + r.Intn(1+x.words/(1+r.Intn(12))), r.Intn(1 + r.Intn(x.words+1))}
}
