package bits_test

import (
	"fmt"
	"math"
	"slices"
	"testing"

	"ballast/bits"
)

// some are blocks within rows of bits, at their edges, and over them.
func some() []block {
	return []block{{0, 1}, {1, 4}, {10, 5}, {15, 3}, {60, 4}, {64, 64}, {128, 1}, {130, 100}, {255, 2}, {299, 1}}
}

// without are the blocks that begin in none of some spans.
func without(blocks []block, spans ...[2]int) []block {
	return slices.DeleteFunc(slices.Clone(blocks), func(x block) bool {
		return slices.ContainsFunc(spans, func(s [2]int) bool { return s[0] <= x.at && x.at < s[1] })
	})
}

// P5.1: without spans all marks are taken away, also by an empty list of spans.
func TestClearAll(t *testing.T) {
	b := with(t, 300, some()...)
	b.Clear()
	sameBlocks(t, "Clear()", b)
	same(t, "Live", b.Live(0, 300), 0)
	same(t, "Words", b.Words(), 300)
	same(t, "all words anew", mark(b, 0, 300), marked)
	b.Clear([][2]int{}...)
	sameBlocks(t, "Clear of an empty list", b)
	b.Clear()
	sameBlocks(t, "Clear where nothing is", b)
}

// P5.1: what begins in a span isn't marked any more, what begins ahead of it or
// behind it is, and its words live.
func TestClearSpans(t *testing.T) {
	for _, spans := range [][][2]int{
		{{0, 300}}, {{0, 1}}, {{1, 2}}, {{2, 10}}, {{2, 11}}, {{11, 61}}, {{63, 64}}, {{63, 65}}, {{64, 128}}, {{299, 300}},
		{{10, 16}, {128, 131}}, {{128, 131}, {10, 16}}, {{0, 64}, {10, 129}, {12, 20}}, {{5, 20}, {5, 20}}, {{0, 300}, {0, 300}},
		{{10, 10}}, {{0, 0}}, {{300, 300}}, {{16, 10}}, {{300, 0}}, {{10, 10}, {64, 65}}, {{16, 10}, {64, 65}},
		{{-5, 1}}, {{math.MinInt, 11}}, {{255, math.MaxInt}}, {{math.MinInt, math.MaxInt}}, {{math.MaxInt, math.MinInt}}, {{-10, -1}}, {{300, 400}}, {{math.MaxInt - 1, math.MaxInt}}, {{math.MinInt, math.MinInt + 1}},
	} {
		b := with(t, 300, some()...)
		what := fmt.Sprintf("Clear(%v)", spans)
		b.Clear(spans...)
		left := without(some(), spans...)
		sameBlocks(t, what, b, left...)
		live := 0
		for _, x := range left {
			live += x.size
			same(t, fmt.Sprintf("%s: Live of %v", what, x), b.Live(x.at, x.at+x.size), x.size)
		}
		same(t, what+": Live of all", b.Live(0, 300), live)
	}
}

// P5.1: every span there is.
func TestClearEverySpan(t *testing.T) {
	for from := -1; from <= 301; from++ {
		for to := from - 1; to <= 301; to += 7 {
			b := with(t, 300, some()...)
			b.Clear([2]int{from, to})
			left := without(some(), [2]int{from, to})
			live := 0
			for _, x := range left {
				live += x.size
			}
			if b.Count(0, 300) != len(left) || b.Live(0, 300) != live {
				t.Fatalf("Clear({%d, %d}): %d blocks of %d words, want %d of %d", from, to, b.Count(0, 300), b.Live(0, 300), len(left), live)
			}
		}
	}
}

// P5.1: a block that begins ahead of a span and reaches into it, or over it,
// stays as it is.
func TestClearWithinBlock(t *testing.T) {
	b := with(t, 300, block{50, 100}, block{150, 20})
	for _, span := range [][2]int{{51, 150}, {51, 52}, {64, 128}, {149, 150}, {151, 300}} {
		b.Clear(span)
		sameBlocks(t, fmt.Sprintf("Clear(%v)", span), b, block{50, 100}, block{150, 20})
	}
	same(t, "Live", b.Live(0, 300), 120)
	b.Clear([2]int{50, 51})
	sameBlocks(t, "Clear of its first word", b, block{150, 20})
	same(t, "Live of the other one", b.Live(0, 300), 20)
}

// P5.1: where a block was marked another one may be, of another size.
func TestMarkBehindClear(t *testing.T) {
	b := with(t, 300, block{10, 100}, block{110, 5})
	b.Clear([2]int{10, 11})
	same(t, "Mark(10, 3)", mark(b, 10, 3), marked)
	same(t, "Mark(13, 97)", mark(b, 13, 97), marked)
	sameBlocks(t, "then", b, block{10, 3}, block{13, 97}, block{110, 5})
}

// R3: spans are as they were; what their owner does to them later has no effect.
func TestClearLeavesSpans(t *testing.T) {
	b := with(t, 300, some()...)
	spans := [][2]int{{-7, 3}, {20, 10}, {250, 999}}
	b.Clear(spans...)
	if want := [][2]int{{-7, 3}, {20, 10}, {250, 999}}; !slices.Equal(spans, want) {
		t.Errorf("spans: %v, want %v", spans, want)
	}
	left := without(some(), spans...)
	spans[0] = [2]int{0, 300}
	sameBlocks(t, "behind a change", b, left...)
}

// Two objects have nothing together.
func TestApart(t *testing.T) {
	one, other := bits.New(100), bits.New(100)
	same(t, "Mark", mark(one, 10, 5), marked)
	sameBlocks(t, "the other one", other)
	other.Clear()
	sameBlocks(t, "the one", one, block{10, 5})
}
