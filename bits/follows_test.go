package bits_test

import (
	"fmt"
	"math/rand"
	"slices"
	"testing"

	"ballast/bits"
)

// P5.3: live words of ranges side by side are together those of both.
func TestLiveSideBySide(t *testing.T) {
	for _, blocks := range lots() {
		b := with(t, 300, blocks...)
		for from := -3; from <= 303; from += 3 {
			for to := from; to <= 303; to += 5 {
				whole := b.Live(from, to)
				for mid := from; mid <= to; mid++ {
					if got := b.Live(from, mid) + b.Live(mid, to); got != whole {
						t.Fatalf("of %v Live of %d, %d, %d: %d, want %d", blocks, from, mid, to, got, whole)
					}
				}
			}
		}
	}
}

// P5.3: of two blocks that may both be marked it is all one which is first; of
// two that may not (they have a word together) the first one is marked.
func TestEitherOrder(t *testing.T) {
	const words = 9
	for _, one := range allBlocks(words) {
		for _, other := range allBlocks(words) {
			if one.at == other.at {
				continue
			}
			there, back := with(t, words, one), with(t, words, other)
			got := [2]told{mark(there, other.at, other.size), mark(back, one.at, one.size)}
			if apart := one.at+one.size <= other.at || other.at+other.size <= one.at; !apart {
				same(t, fmt.Sprintf("%v and %v", one, other), got, [2]told{tooMuch, tooMuch})
				continue
			}
			same(t, fmt.Sprintf("%v and %v", one, other), got, [2]told{marked, marked})
			want := []block{one, other}
			slices.SortFunc(want, func(a, b block) int { return a.at - b.at })
			sameBlocks(t, fmt.Sprintf("%v, then %v", one, other), there, want...)
			sameBlocks(t, fmt.Sprintf("%v, then %v", other, one), back, want...)
		}
	}
}

// allBlocks are all blocks of so many words.
func allBlocks(words int) []block {
	var l []block
	for at := range words {
		for size := 1; size <= words-at; size++ {
			l = append(l, block{at, size})
		}
	}
	return l
}

// P5.3: blocks that may all be marked, in any order, make the same marks.
func TestAnyOrder(t *testing.T) {
	r := rand.New(rand.NewSource(5))
	for range 100 {
		blocks := some()
		r.Shuffle(len(blocks), func(i, j int) { blocks[i], blocks[j] = blocks[j], blocks[i] })
		b := with(t, 300, blocks...)
		sameBlocks(t, fmt.Sprint(blocks), b, some()...)
		same(t, "Live", b.Live(0, 300), 185)
	}
}

// P5.3: of several that mark one block just one, the first, is told true.
func TestOneOfSeveral(t *testing.T) {
	for _, x := range some() {
		b := bits.New(300)
		for i := range 20 {
			want := again
			if i == 0 {
				want = marked
			}
			same(t, fmt.Sprintf("%v, by number %d", x, i), mark(b, x.at, x.size), want)
		}
		b.Clear()
		same(t, fmt.Sprintf("%v anew", x), mark(b, x.at, x.size), marked)
		sameBlocks(t, fmt.Sprintf("%v", x), b, x)
	}
}

// account is a plain account of marks, for whatever is done.
type account struct {
	words  int
	blocks map[int]int
}

func (a account) mark(at, size int) told {
	if at < 0 || at >= a.words {
		return noAddr
	}
	if size < 1 || at+size > a.words {
		return tooMuch
	}
	if _, is := a.blocks[at]; is {
		return again
	}
	for begin, s := range a.blocks {
		if begin < at+size && at < begin+s {
			return tooMuch
		}
	}
	a.blocks[at] = size
	return marked
}

func (a account) clear(spans [][2]int) {
	for begin := range a.blocks {
		if len(spans) == 0 || slices.ContainsFunc(spans, func(s [2]int) bool { return s[0] <= begin && begin < s[1] }) {
			delete(a.blocks, begin)
		}
	}
}

func (a account) list() []block {
	var l []block
	for at, size := range a.blocks {
		l = append(l, block{at, size})
	}
	slices.SortFunc(l, func(a, b block) int { return a.at - b.at })
	return l
}

// P5.1 to P5.3: whatever is marked and cleared, by turns, against an account.
func TestAgainstAccount(t *testing.T) {
	for seed := range 60 {
		r := rand.New(rand.NewSource(int64(seed)))
		words := 1 + r.Intn(260)
		most := 1 + r.Intn(80)
		b, a := bits.New(words), account{words, map[int]int{}}
		for range 300 {
			if r.Intn(12) > 0 {
				at, size := r.Intn(words+4)-2, r.Intn(most+2)-1
				same(t, fmt.Sprintf("seed %d: Mark(%d, %d)", seed, at, size), mark(b, at, size), a.mark(at, size))
			} else if n := r.Intn(6); n > 0 || r.Intn(4) == 0 {
				spans := make([][2]int, n)
				for i := range spans {
					spans[i] = [2]int{r.Intn(words+20) - 10, r.Intn(words+20) - 10}
				}
				b.Clear(spans...)
				a.clear(spans)
			}
			l := plain(words, a.list())
			from, to := r.Intn(words+20)-10, r.Intn(words+20)-10
			same(t, fmt.Sprintf("seed %d: the range %d, %d", seed, from, to), ask(b, from, to), plainly(l, from, to))
			at := r.Intn(words)
			same(t, fmt.Sprintf("seed %d: Over(%d)", seed, at), over(b, at), found{l[at].at, l[at].size, l[at].size > 0})
		}
		sameBlocks(t, fmt.Sprintf("seed %d", seed), b, a.list()...)
	}
}
