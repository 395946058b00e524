package bits_test

import (
	"fmt"
	"math"
	"slices"
	"testing"

	"ballast/api"
	"ballast/bits"
)

func same[T comparable](t *testing.T, what string, got, want T) {
	t.Helper()
	if got != want {
		t.Errorf("%s: %v, want %v", what, got, want)
	}
}

// block is a block's beginning and its size.
type block struct{ at, size int }

// told holds what Mark told.
type told struct {
	is    bool
	errno api.Errno
}

// The four things that Mark can tell.
var (
	marked  = told{true, api.OK}
	again   = told{false, api.OK}
	noAddr  = told{false, api.ErrAddr}
	tooMuch = told{false, api.ErrSize}
)

func mark(b *bits.Bits, at, size int) told {
	is, errno := b.Mark(at, size)
	return told{is, errno}
}

// with is bits of so many words, with some blocks marked.
func with(t *testing.T, words int, blocks ...block) *bits.Bits {
	t.Helper()
	b := bits.New(words)
	for _, x := range blocks {
		same(t, fmt.Sprintf("Mark(%d, %d)", x.at, x.size), mark(b, x.at, x.size), marked)
	}
	return b
}

// sameBlocks asks whether just these blocks (rising) are marked: by Has and
// Size of each word, and of some that there are not.
func sameBlocks(t *testing.T, what string, b *bits.Bits, want ...block) {
	t.Helper()
	var got []block
	for at := -2; at < b.Words()+2; at++ {
		size := b.Size(at)
		same(t, fmt.Sprintf("%s: Has(%d)", what, at), b.Has(at), size > 0)
		if size != 0 {
			got = append(got, block{at, size})
		}
	}
	if !slices.Equal(got, want) {
		t.Errorf("%s: the blocks %v, want %v", what, got, want)
	}
}

// far are places from which no int can tell what lies behind or ahead.
func far() []int {
	return []int{math.MinInt, math.MinInt + 1, math.MinInt32, math.MaxInt32, math.MaxInt - 64, math.MaxInt - 63, math.MaxInt - 1, math.MaxInt}
}

// noBits are nil bits, and some of no words.
func noBits() map[string]*bits.Bits {
	return map[string]*bits.Bits{"nil": nil, "zero": new(bits.Bits), "New(0)": bits.New(0), "New(-5)": bits.New(-5)}
}

// P5.1: New's words are kept from 0 to MaxWords; none is marked.
func TestNewKeepsWords(t *testing.T) {
	for _, x := range [][2]int{
		{math.MinInt, 0}, {-1, 0}, {0, 0}, {1, 1}, {63, 63}, {64, 64}, {65, 65}, {128, 128}, {1000, 1000},
		{65535, 65535}, {65536, 65536}, {65537, 65536}, {1 << 20, 65536}, {math.MaxInt, 65536},
	} {
		b := bits.New(x[0])
		same(t, fmt.Sprintf("New(%d).Words()", x[0]), b.Words(), x[1])
		same(t, fmt.Sprintf("New(%d): Live", x[0]), b.Live(0, x[1]), 0)
		same(t, fmt.Sprintf("New(%d): Count", x[0]), b.Count(0, x[1]), 0)
		same(t, fmt.Sprintf("New(%d): Next", x[0]), b.Next(0, x[1]), -1)
		same(t, fmt.Sprintf("New(%d): a block of all and one more", x[0]), mark(b, 0, x[1]+1).is, false)
		if x[1] > 0 {
			same(t, fmt.Sprintf("New(%d): the last word", x[0]), mark(b, x[1]-1, 1), marked)
		}
		same(t, fmt.Sprintf("New(%d): one behind the last word", x[0]), mark(b, x[1], 1), noAddr)
	}
}

// The chapter's first example.
func TestExampleMark(t *testing.T) {
	b := bits.New(100)
	same(t, "Mark(10, 5)", mark(b, 10, 5), marked)
	same(t, "Mark(10, 5) again", mark(b, 10, 5), again)
	same(t, "Mark(14, 1)", mark(b, 14, 1), tooMuch)
	same(t, "Mark(15, 3)", mark(b, 15, 3), marked)
	same(t, "Mark(99, 2)", mark(b, 99, 2), tooMuch)
	sameBlocks(t, "then", b, block{10, 5}, block{15, 3})
}

// P5.1: what Mark tells of a place and a size alone; with an error all is as it
// was (R2).
func TestMarkOfPlaceAndSize(t *testing.T) {
	for _, words := range []int{1, 5, 63, 64, 65, 130} {
		for _, x := range []struct {
			at, size int
			want     told
		}{
			{0, 1, marked}, {0, words, marked}, {words - 1, 1, marked},
			{-1, 1, noAddr}, {words, 1, noAddr}, {words + 1, 1, noAddr}, {math.MinInt, 1, noAddr}, {math.MaxInt, 1, noAddr},
			{0, 0, tooMuch}, {0, -1, tooMuch}, {0, math.MinInt, tooMuch}, {words - 1, 0, tooMuch}, {words - 1, -1, tooMuch},
			{0, words + 1, tooMuch}, {words - 1, 2, tooMuch}, {words / 2, words - words/2 + 1, tooMuch},
			{0, math.MaxInt, tooMuch}, {words - 1, math.MaxInt, tooMuch}, {words / 2, math.MaxInt - words/2 + 1, tooMuch}, {words - 1, math.MaxInt - 1, tooMuch},
		} {
			b := bits.New(words)
			what := fmt.Sprintf("of %d words Mark(%d, %d)", words, x.at, x.size)
			same(t, what, mark(b, x.at, x.size), x.want)
			if x.want.is {
				sameBlocks(t, what, b, block{x.at, x.size})
			} else {
				sameBlocks(t, what, b)
			}
		}
	}
}

// P5.1, R2: ErrAddr comes ahead of ErrSize; a block that is too great, or none,
// is ErrSize even where one is marked.
func TestMarkOrder(t *testing.T) {
	b := with(t, 100, block{10, 5})
	for _, at := range append(far(), -1, 100) {
		for _, size := range append(far(), -1, 0, 101) {
			same(t, fmt.Sprintf("Mark(%d, %d)", at, size), mark(b, at, size), noAddr)
		}
	}
	for _, size := range append(far(), -1, 0, 91) {
		same(t, fmt.Sprintf("Mark(10, %d)", size), mark(b, 10, size), tooMuch)
	}
	sameBlocks(t, "then", b, block{10, 5})
}

// P5.1: a block is marked already, whatever the size, even if with that size it
// would have words together with another one; its own size stays.
func TestMarkAgain(t *testing.T) {
	b := with(t, 100, block{10, 5}, block{15, 3}, block{60, 40})
	for size := 1; size <= 90; size++ {
		same(t, fmt.Sprintf("Mark(10, %d)", size), mark(b, 10, size), again)
	}
	same(t, "Mark(15, 3)", mark(b, 15, 3), again)
	same(t, "Mark(60, 1)", mark(b, 60, 1), again)
	sameBlocks(t, "then", b, block{10, 5}, block{15, 3}, block{60, 40})
}

// P5.1: every block beside one that is marked, at every place and of every
// size; the marked ones lie within a row of bits, at its edges, and over it.
func TestMarkTogether(t *testing.T) {
	const words = 140
	for _, old := range []block{{10, 5}, {0, 1}, {0, 64}, {63, 1}, {63, 2}, {64, 1}, {60, 4}, {60, 5}, {62, 70}, {127, 2}, {139, 1}, {0, 140}} {
		for at := range words {
			for size := 1; size <= words-at; size++ {
				want := marked
				if at == old.at {
					want = again
				} else if at < old.at+old.size && old.at < at+size {
					want = tooMuch
				}
				b := with(t, words, old)
				if got := mark(b, at, size); got != want {
					t.Fatalf("beside %v Mark(%d, %d): %v, want %v", old, at, size, got, want)
				}
				if at != old.at && b.Has(at) != want.is || b.Size(old.at) != old.size {
					t.Fatalf("beside %v Mark(%d, %d): Has %v, and the size %d", old, at, size, b.Has(at), b.Size(old.at))
				}
			}
		}
	}
}

// P5.1: the ways in which blocks may have words together, one by one.
func TestMarkTogetherByName(t *testing.T) {
	for _, x := range []struct {
		what string
		block
		want told
	}{
		{"its last word is the other's first", block{16, 5}, tooMuch},
		{"its first word is the other's last", block{29, 5}, tooMuch},
		{"an inner word is the other's first", block{18, 5}, tooMuch},
		{"an inner word is the other's last", block{28, 5}, tooMuch},
		{"within, ending where the other one ends", block{25, 5}, tooMuch},
		{"within", block{23, 2}, tooMuch},
		{"the other one is within", block{15, 30}, tooMuch},
		{"the other one is within, ending where it ends", block{15, 15}, tooMuch},
		{"over the other one and the next", block{15, 60}, tooMuch},
		{"side by side ahead", block{16, 4}, marked},
		{"side by side behind", block{30, 5}, marked},
		{"just between both", block{30, 20}, marked},
		{"one word too long between both", block{30, 21}, tooMuch},
	} {
		b := with(t, 100, block{20, 10}, block{50, 10})
		same(t, x.what, mark(b, x.at, x.size), x.want)
		want := []block{{20, 10}, {50, 10}}
		if x.want.is {
			want = append(want, x.block)
			slices.SortFunc(want, func(a, b block) int { return a.at - b.at })
		}
		sameBlocks(t, x.what, b, want...)
	}
}

// P5.1: blocks of each size side by side fill all words.
func TestMarkSideBySide(t *testing.T) {
	for size := 1; size <= 130; size++ {
		const words = 400
		var want []block
		b := bits.New(words)
		for at := 0; at+size <= words; at += size {
			want = append(want, block{at, size})
			same(t, fmt.Sprintf("Mark(%d, %d)", at, size), mark(b, at, size), marked)
		}
		sameBlocks(t, fmt.Sprintf("blocks of %d", size), b, want...)
		same(t, fmt.Sprintf("Live of blocks of %d", size), b.Live(0, words), words/size*size)
	}
}

// P5.1: of a block's words Has and Size know the first one alone; outside of
// all words there is nothing.
func TestHasAndSize(t *testing.T) {
	b := with(t, 200, block{0, 3}, block{60, 10}, block{199, 1})
	sameBlocks(t, "of three", b, block{0, 3}, block{60, 10}, block{199, 1})
	for _, at := range append(far(), -1, -64, 1, 2, 61, 69, 70, 200, 201, 256) {
		same(t, fmt.Sprintf("Has(%d)", at), b.Has(at), false)
		same(t, fmt.Sprintf("Size(%d)", at), b.Size(at), 0)
	}
}

// P5.1: as many words as there may be, one block, and blocks of one word.
func TestMarkAllOfMost(t *testing.T) {
	b := with(t, api.MaxWords, block{0, api.MaxWords})
	same(t, "Size(0)", b.Size(0), api.MaxWords)
	same(t, "Live", b.Live(0, api.MaxWords), api.MaxWords)
	b.Clear()
	for at := range api.MaxWords {
		if got := mark(b, at, 1); got != marked {
			t.Fatalf("Mark(%d, 1): %v", at, got)
		}
	}
	same(t, "Count", b.Count(0, api.MaxWords), api.MaxWords)
	same(t, "Live of single words", b.Live(0, api.MaxWords), api.MaxWords)
}

// A nil object, and ones of no words: what stands below P5.3, and R1.
func TestNothing(t *testing.T) {
	for name, b := range noBits() {
		same(t, name+": Words", b.Words(), 0)
		for _, at := range append(far(), -1, 0, 1, 64) {
			same(t, name+": Mark", mark(b, at, 1), noAddr)
			same(t, name+": Mark of no size", mark(b, at, 0), noAddr)
			same(t, name+": Has", b.Has(at), false)
			same(t, name+": Size", b.Size(at), 0)
			same(t, name+": Over", over(b, at), found{})
			for _, to := range append(far(), -1, 0, 1, 64) {
				same(t, name+": Live", b.Live(at, to), 0)
				same(t, name+": Next", b.Next(at, to), -1)
				same(t, name+": Count", b.Count(at, to), 0)
				b.Clear([2]int{at, to})
			}
		}
		b.Clear()
		same(t, name+": Words behind all that", b.Words(), 0)
	}
}
