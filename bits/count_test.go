package bits_test

import (
	"fmt"
	"math"
	"testing"

	"ballast/api"
	"ballast/bits"
)

// found holds what Over told.
type found struct {
	at, size int
	is       bool
}

func over(b *bits.Bits, at int) found {
	begin, size, is := b.Over(at)
	return found{begin, size, is}
}

// The chapter's second example.
func TestExampleCounted(t *testing.T) {
	b := with(t, 100, block{10, 5}, block{15, 3})
	same(t, "Live(0, 100)", b.Live(0, 100), 8)
	same(t, "Live(12, 16)", b.Live(12, 16), 4)
	same(t, "Next(11, 100)", b.Next(11, 100), 15)
	same(t, "Count(0, 15)", b.Count(0, 15), 1)
	same(t, "Over(13)", over(b, 13), found{10, 5, true})
	same(t, "Over(9)", over(b, 9), found{})
}

// plain is a plain account of blocks: of each word which block has it.
func plain(words int, blocks []block) []block {
	l := make([]block, words)
	for _, x := range blocks {
		for i := range x.size {
			l[x.at+i] = x
		}
	}
	return l
}

// counted is what P5.2 tells of a range.
type counted struct{ live, next, count int }

func ask(b *bits.Bits, from, to int) counted {
	return counted{b.Live(from, to), b.Next(from, to), b.Count(from, to)}
}

// plainly is that by the plain account, one word after the other.
func plainly(l []block, from, to int) counted {
	c := counted{next: -1}
	for at := max(from, 0); at < min(to, len(l)); at++ {
		if l[at].size == 0 {
			continue
		}
		c.live++
		if l[at].at == at {
			c.count++
			if c.next < 0 {
				c.next = at
			}
		}
	}
	return c
}

// lots are lists of blocks: nothing, all words, single words, rows of bits that
// blocks fill, begin, end, or reach over, from word to word or several of them.
func lots() [][]block {
	var singles, pairs []block
	for at := range 300 {
		singles = append(singles, block{at, 1})
		if at%3 == 0 {
			pairs = append(pairs, block{at, 2})
		}
	}
	return [][]block{
		nil, some(), {{0, 300}}, singles, pairs,
		{{64, 64}}, {{63, 66}}, {{63, 65}}, {{64, 65}}, {{0, 64}, {64, 64}, {128, 64}}, {{63, 1}, {64, 1}, {127, 1}, {128, 1}},
		{{10, 250}}, {{1, 298}}, {{0, 65}, {65, 62}, {127, 129}, {256, 44}}, {{298, 1}, {299, 1}}, {{0, 1}, {299, 1}},
	}
}

// P5.2: over every range, from below 0 to beyond the words, turned round too.
func TestEveryRange(t *testing.T) {
	for _, blocks := range lots() {
		b := with(t, 300, blocks...)
		l := plain(300, blocks)
		for from := -2; from <= 302; from++ {
			for to := -2; to <= 302; to++ {
				if got, want := ask(b, from, to), plainly(l, from, to); got != want {
					t.Fatalf("of %v the range %d, %d: %+v, want %+v", blocks, from, to, got, want)
				}
			}
		}
	}
}

// P5.2: as many words as make rows of bits, one less and one more, all live.
func TestRangesByRows(t *testing.T) {
	for _, words := range []int{1, 2, 63, 64, 65, 127, 128, 129, 192} {
		b := with(t, words, block{0, words})
		for from := range words + 1 {
			for to := range words + 1 {
				same(t, fmt.Sprintf("of %d Live(%d, %d)", words, from, to), b.Live(from, to), max(to-from, 0))
			}
		}
	}
}

// P5.2: a range is kept within the words, however far its ends are.
func TestFarRanges(t *testing.T) {
	blocks := []block{{0, 10}, {60, 70}, {299, 1}}
	b := with(t, 300, blocks...)
	l := plain(300, blocks)
	for _, from := range append(far(), -1, 0, 5, 299, 300) {
		for _, to := range append(far(), -1, 0, 5, 299, 300) {
			same(t, fmt.Sprintf("the range %d, %d", from, to), ask(b, from, to), plainly(l, from, to))
		}
	}
	same(t, "all", ask(b, math.MinInt, math.MaxInt), counted{81, 0, 3})
}

// P5.2: ranges that are empty, or turned round, even within a block.
func TestEmptyRanges(t *testing.T) {
	b := with(t, 300, block{0, 300})
	for _, x := range [][2]int{{0, 0}, {300, 300}, {64, 64}, {65, 64}, {300, 0}, {1, 0}, {-1, 0}, {-5, -1}, {300, 301}, {301, 300}, {math.MaxInt, math.MinInt}} {
		same(t, fmt.Sprintf("the range %v", x), ask(b, x[0], x[1]), counted{0, -1, 0})
	}
}

// P5.2: Live counts words of blocks that begin ahead of a range or end behind
// it; Next and Count those that begin in it alone.
func TestWithinBlock(t *testing.T) {
	b := with(t, 300, block{50, 200})
	same(t, "all of it", ask(b, 50, 250), counted{200, 50, 1})
	same(t, "from within", ask(b, 51, 300), counted{199, -1, 0})
	same(t, "into it", ask(b, 0, 51), counted{1, 50, 1})
	same(t, "inner words", ask(b, 130, 140), counted{10, -1, 0})
	same(t, "its last word", ask(b, 249, 300), counted{1, -1, 0})
	same(t, "behind it", ask(b, 250, 300), counted{0, -1, 0})
	same(t, "ahead of it", ask(b, 0, 50), counted{0, -1, 0})
}

// P5.2: Over at each word of blocks, at free ones, and outside of all words.
func TestOver(t *testing.T) {
	for _, blocks := range lots() {
		b := with(t, 300, blocks...)
		l := plain(300, blocks)
		for at := range 300 {
			want := found{l[at].at, l[at].size, l[at].size > 0}
			same(t, fmt.Sprintf("of %v Over(%d)", blocks, at), over(b, at), want)
		}
		for _, at := range append(far(), -1, -64, 300, 301, 319, 320) {
			same(t, fmt.Sprintf("of %v Over(%d)", blocks, at), over(b, at), found{})
		}
	}
}

// P5.2: what is asked changes nothing (R4: the same calls, the same answers).
func TestAskingChangesNothing(t *testing.T) {
	b := with(t, 300, some()...)
	before := ask(b, 3, 290)
	for at := -1; at <= 300; at++ {
		over(b, at)
		b.Has(at)
		b.Size(at)
		b.Words()
		ask(b, at, 150)
	}
	same(t, "asked again", ask(b, 3, 290), before)
	sameBlocks(t, "then", b, some()...)
}

// P5.2: as many words as there may be.
func TestCountMost(t *testing.T) {
	b := with(t, api.MaxWords, block{0, 1}, block{1, 40000}, block{65535, 1})
	same(t, "all", ask(b, 0, api.MaxWords), counted{40002, 0, 3})
	same(t, "behind the first ones", ask(b, 2, api.MaxWords), counted{40000, 65535, 1})
	same(t, "Over(40000)", over(b, 40000), found{1, 40000, true})
	same(t, "Over(40001)", over(b, 40001), found{})
	same(t, "Over(65534)", over(b, 65534), found{})
}
