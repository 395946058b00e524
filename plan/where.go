package plan

import (
	"sort"

	"ballast/api"
	"ballast/bits"
)

// regions is how many a plan has. Where its numbers can be no heap's there are
// none, so that nothing is reckoned out of what Make can't have made.
func regions(p api.Plan) int {
	if p.From < 0 || p.From >= p.To || p.To > api.MaxWords || p.Region < 1 {
		return 0
	}
	return (p.To-p.From-1)/p.Region + 1
}

// Region is that in which a word stands; -1, if it is no word of the heap.
func Region(p api.Plan, at int) int {
	if regions(p) == 0 || at < p.From || at >= p.To {
		return -1
	}
	return (at - p.From) / p.Region
}

// Span is a region's first word, and the one behind its last.
func Span(p api.Plan, region int) (int, int) {
	if region < 0 || region >= regions(p) {
		return 0, 0
	}
	first := p.From + region*p.Region
	return first, first + min(p.Region, p.To-first)
}

// moving is a region's words from Dense on, of which the live ones are moved.
func moving(p api.Plan, region int) (int, int) {
	first, end := Span(p, region)
	return max(first, p.Dense), end
}

// Goal is the words of a region that others go to.
func Goal(p api.Plan, region int) (int, int) {
	from, end := moving(p, region)
	to := min(end, p.Top)
	if from >= to {
		return 0, 0
	}
	return from, to
}

// Forward is where a live word of the heap goes; 0, if it is none.
func Forward(p api.Plan, b *bits.Bits, at int) int {
	region := Region(p, at)
	switch {
	case region < 0 || region >= len(p.Ahead) || !lives(b, at):
		return 0
	case at < p.Dense:
		return at
	}
	from, _ := moving(p, region)
	return p.Dense + p.Ahead[region] + b.Live(from, at)
}

// Source is the live word that goes to a word; -1, if none does.
func Source(p api.Plan, b *bits.Bits, at int) int {
	switch {
	case Region(p, at) < 0:
		return -1
	case at < p.Dense && lives(b, at):
		return at
	case at < p.Dense:
		return -1
	}
	region := origin(p, at)
	if region < 0 {
		return -1
	}
	from, end := moving(p, region)
	return liveWord(b, from, end, at-p.Dense-p.Ahead[region])
}

// lives tells whether a word belongs to a marked block.
func lives(b *bits.Bits, at int) bool {
	_, _, ok := b.Over(at)
	return ok
}

// liveWord is the live word of a range ahead of which so many others of it
// stand; -1, if there is none.
func liveWord(b *bits.Bits, from, to, ahead int) int {
	words := to - from
	i := sort.Search(words, func(i int) bool { return b.Live(from, from+i+1) > ahead })
	if i >= words {
		return -1
	}
	return from + i
}

// Gaps are the greatest stretches of dead words ahead of Dense.
func Gaps(p api.Plan, b *bits.Bits) [][2]int {
	var l [][2]int
	if b.Words() == 0 {
		return l
	}
	for at := p.From; at < p.Dense; {
		begin := b.Next(at, p.Dense)
		if begin < 0 {
			begin = p.Dense
		}
		if begin > at {
			l = append(l, [2]int{at, begin})
		}
		at = begin + b.Size(begin)
	}
	return l
}
