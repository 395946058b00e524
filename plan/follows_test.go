package plan_test

import (
	"fmt"
	"math/rand"
	"testing"

	"ballast/api"
	"ballast/bits"
	"ballast/plan"
)

// many has some one look at many plans: of all small rows, and of drawn ones.
func many(t *testing.T, look func(t *testing.T, what string, p api.Plan, b *bits.Bits)) {
	t.Helper()
	at := func(x row, a args) {
		t.Helper()
		b := x.bits(t)
		what := fmt.Sprintf("%v, %+v", x, a)
		p, errno := plan.Make(b, a.from, a.to, a.region, a.waste)
		if errno != api.OK {
			t.Fatalf("%s: %v", what, errno)
		}
		look(t, what, p, b)
		if t.Failed() {
			t.FailNow()
		}
	}
	for _, x := range allRows(6) {
		for region := 1; region <= 7; region++ {
			for waste := range 7 {
				at(x, args{0, 6, region, waste})
			}
		}
	}
	r := rand.New(rand.NewSource(134))
	for range 600 {
		x := drawn(r, 1+r.Intn(400), 1+r.Intn(1+r.Intn(60)), r.Intn(101))
		at(x, drawnArgs(r, x))
	}
}

// liveWords are those of the heap, rising.
func liveWords(p api.Plan, b *bits.Bits) []int {
	var l []int
	for at := p.From; at < p.To; at++ {
		if _, _, ok := b.Over(at); ok {
			l = append(l, at)
		}
	}
	return l
}

// P13.4: Forward is one-to-one and rising; nothing goes to a greater word, and
// what stands ahead of Dense stays.
func TestForwardRises(t *testing.T) {
	many(t, func(t *testing.T, what string, p api.Plan, b *bits.Bits) {
		last := -1
		for _, at := range liveWords(p, b) {
			goes := plan.Forward(p, b, at)
			switch {
			case goes <= last:
				t.Errorf("%s: %d goes to %d, the one ahead of it to %d", what, at, goes, last)
			case goes > at:
				t.Errorf("%s: %d goes up to %d", what, at, goes)
			case at < p.Dense && goes != at:
				t.Errorf("%s: %d is ahead of Dense and goes to %d", what, at, goes)
			case at >= p.Dense && goes < p.Dense:
				t.Errorf("%s: %d goes to %d, ahead of Dense %d", what, at, goes, p.Dense)
			}
			last = goes
		}
	})
}

// P13.4: a block's words stay together, and no block is on both sides of Dense.
func TestBlocksStayWhole(t *testing.T) {
	many(t, func(t *testing.T, what string, p api.Plan, b *bits.Bits) {
		for at := b.Next(p.From, p.To); at >= 0; at = b.Next(at+1, p.To) {
			size := b.Size(at)
			if at < p.Dense && at+size > p.Dense {
				t.Errorf("%s: the block at %d is on both sides of Dense %d", what, at, p.Dense)
			}
			for i := range size {
				same(t, fmt.Sprintf("%s: Forward of %d in the block at %d", what, i, at), plan.Forward(p, b, at+i), plan.Forward(p, b, at)+i)
			}
		}
	})
}

// P13.4: Source is Forward the other way round, of all words.
func TestSourceIsTheOtherWay(t *testing.T) {
	many(t, func(t *testing.T, what string, p api.Plan, b *bits.Bits) {
		comes := map[int]int{}
		for _, at := range liveWords(p, b) {
			comes[plan.Forward(p, b, at)] = at
		}
		for at := -1; at <= b.Words(); at++ {
			want, ok := comes[at]
			if !ok {
				want = -1
			}
			same(t, fmt.Sprint(what, ": Source ", at), plan.Source(p, b, at), want)
		}
	})
}

// P13.4: all words from Dense to Top are gone to, and none behind; they are
// just the Goals.
func TestAllToTopAreGoneTo(t *testing.T) {
	many(t, func(t *testing.T, what string, p api.Plan, b *bits.Bits) {
		for at := p.Dense; at < p.To; at++ {
			source := plan.Source(p, b, at)
			same(t, fmt.Sprint(what, ": is ", at, " gone to"), source >= p.Dense, at < p.Top)
		}
		next := p.Dense
		for region := range len(p.Live) {
			if from, to := plan.Goal(p, region); from < to {
				same(t, what+": a Goal begins where the last one ended", from, next)
				next = to
			}
		}
		same(t, what+": the last Goal's end", next, p.Top)
		all := 0
		for _, live := range p.Live {
			all += live
		}
		same(t, what+": live words", all, b.Live(p.From, p.To))
	})
}

// takers tells of each region which regions take words out of it, the regions
// themselves too.
func takers(p api.Plan, b *bits.Bits) []map[int]int {
	l := make([]map[int]int, len(p.Live))
	for region := range l {
		l[region] = map[int]int{}
	}
	for region := range l {
		from, to := plan.Goal(p, region)
		for at := from; at < to; at++ {
			l[plan.Region(p, plan.Source(p, b, at))][region]++
		}
	}
	return l
}

// P13.4: no region takes out of one ahead of it; and what Takes and Waits tell
// is what the words do.
func TestNoneTakesFromAhead(t *testing.T) {
	many(t, func(t *testing.T, what string, p api.Plan, b *bits.Bits) {
		for region, by := range takers(p, b) {
			others := 0
			for taker := range by {
				if taker > region {
					t.Errorf("%s: %d takes out of %d", what, taker, region)
				}
				if takes := p.Takes[taker]; region < takes[0] || region >= takes[1] {
					t.Errorf("%s: %d takes out of %d, but Takes is %v", what, taker, region, takes)
				}
				if taker != region {
					others++
				}
			}
			same(t, fmt.Sprint(what, ": Waits of ", region), p.Waits[region], others)
		}
		for region, takes := range p.Takes {
			if goalOf(p, region) == [2]int{} {
				same(t, fmt.Sprint(what, ": Takes of ", region), takes, [2]int{})
			} else if takes[0] < region || takes[0] >= takes[1] || takes[1] > len(p.Live) {
				t.Errorf("%s: Takes of %d: %v", what, region, takes)
			}
		}
	})
}

// P13.4: as long as not all are filled, some region that has a Goal and is not
// filled waits for none that is not: whichever of those that may be is filled
// next, all are filled in the end, and all words are what they should.
func TestAllCanBeFilled(t *testing.T) {
	r := rand.New(rand.NewSource(4))
	many(t, func(t *testing.T, what string, p api.Plan, b *bits.Bits) {
		words := span(0, b.Words()+1)
		waits := append([]int(nil), p.Waits...)
		by := takers(p, b)
		left := map[int]int{}
		for region := range p.Live {
			if goalOf(p, region) != [2]int{} {
				left[region] = 1
			}
		}
		for len(left) > 0 {
			var ready []int
			for region := range p.Live {
				if left[region] == 1 && waits[region] == 0 {
					ready = append(ready, region)
				}
			}
			if len(ready) == 0 {
				t.Errorf("%s: of %v all wait", what, left)
				return
			}
			region := ready[r.Intn(len(ready))]
			delete(left, region)
			fill(p, b, region, words)
			for other := range by {
				if other != region && by[other][region] > 0 {
					waits[other]--
				}
			}
		}
		for at := p.From; at < p.Top; at++ {
			if source := plan.Source(p, b, at); source >= 0 {
				same(t, fmt.Sprint(what, ": word ", at), words[at], source)
			}
		}
	})
}

// fill copies what goes to a region, rising.
func fill(p api.Plan, b *bits.Bits, region int, words []int) {
	from, to := plan.Goal(p, region)
	for at := from; at < to; at++ {
		words[at] = words[plan.Source(p, b, at)]
	}
}
