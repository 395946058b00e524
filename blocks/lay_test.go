package blocks_test

import (
	"fmt"
	"math"
	"slices"
	"testing"

	"ballast/api"
	"ballast/blocks"
	"ballast/cells"
	"ballast/classes"
)

func same[T comparable](t *testing.T, what string, got, want T) {
	t.Helper()
	if got != want {
		t.Errorf("%s: %v, want %v", what, got, want)
	}
}

func sameList[T comparable](t *testing.T, what string, got []T, want ...T) {
	t.Helper()
	if !slices.Equal(got, want) {
		t.Errorf("%s: %v, want %v", what, got, want)
	}
}

// some are classes as the chapter's examples have them.
func some() []api.Class {
	return []api.Class{{Refs: 2, Words: 1}, {Array: 1}, {Array: 2}}
}

// used is memory in which words stand already, no two the same.
func used(words int) *cells.Cells {
	c := cells.New(words)
	c.Put(0, before(words)...)
	return c
}

// before are the words of used.
func before(words int) []int64 {
	l := make([]int64, words)
	for i := range l {
		l[i] = int64(-1000 - i)
	}
	return l
}

func all(c *cells.Cells) []int64 { return c.Words(0, c.Len()) }

// laid holds what Lay told.
type laid struct {
	size  int
	errno api.Errno
}

func lay(c *cells.Cells, l []api.Class, at, class, length int) laid {
	size, errno := blocks.Lay(c, l, at, class, length)
	return laid{size, errno}
}

// afterBlock are the words of used with a block among them, as P4.1 has it.
func afterBlock(words, at, class, length, size int) []int64 {
	l := before(words)
	clear(l[at : at+size])
	l[at] = 1<<62 + int64(class)<<32 + int64(length)
	return l
}

// noMemories are a nil memory, and two of no cells.
func noMemories() map[string]*cells.Cells {
	return map[string]*cells.Cells{"nil": nil, "zero": new(cells.Cells), "New(0)": cells.New(0)}
}

// far are places from which no int can tell what lies behind or ahead.
func far() []int {
	return []int{math.MinInt, math.MinInt + 1, math.MinInt32, math.MaxInt32, math.MaxInt - 4, math.MaxInt - 3, math.MaxInt - 1, math.MaxInt}
}

// P4.1: objects, arrays and fillers, at each place of a memory: those that
// have room stand there with no word around them changed, the others change
// nothing.
func TestLayAtEachPlace(t *testing.T) {
	const words = 12
	for _, k := range []struct{ class, length, size int }{
		{1, 0, 4}, {2, 0, 1}, {2, 5, 6}, {3, 0, 1}, {3, 2, 3}, {3, 11, 12}, {2, 12, 13},
		{0, 0, 1}, {0, 4, 5}, {0, 11, 12}, {0, 12, 13}, {2, 1024, 1025}, {0, 65535, 65536},
	} {
		for at := -2; at <= words+2; at++ {
			c := used(words)
			what := fmt.Sprintf("Lay of %d, %d at %d", k.class, k.length, at)
			if at < 0 || at+k.size > words {
				same(t, what, lay(c, some(), at, k.class, k.length), laid{0, api.ErrAddr})
				sameList(t, what, all(c), before(words)...)
				continue
			}
			same(t, what, lay(c, some(), at, k.class, k.length), laid{k.size, api.OK})
			sameList(t, what, all(c), afterBlock(words, at, k.class, k.length, k.size)...)
		}
	}
}

// P4.1: where a place and a size together go beyond any int.
func TestLayFarAway(t *testing.T) {
	c := used(8)
	for _, at := range far() {
		for _, class := range []int{0, 1, 2, 3} {
			same(t, fmt.Sprint("Lay at ", at), lay(c, some(), at, class, 0), laid{0, api.ErrAddr})
		}
		same(t, fmt.Sprint("Lay of much at ", at), lay(c, some(), at, 0, 65535), laid{0, api.ErrAddr})
	}
	sameList(t, "the words", all(c), before(8)...)
}

// P4.1: what classes.Size says, ahead of any place; then nothing is laid.
func TestLayOfWhatMayNotBe(t *testing.T) {
	l := append(some(), api.Class{Array: 3}, api.Class{Refs: 60, Words: 5}, api.Class{Words: 2})
	c := used(80)
	for _, at := range []int{0, 1, -1, 79, 80, math.MaxInt, math.MinInt} {
		for _, k := range []struct {
			class, length int
			want          api.Errno
		}{
			{-1, 0, api.ErrClass}, {7, 0, api.ErrClass}, {4, 0, api.ErrClass}, {5, 0, api.ErrClass},
			{math.MaxInt, 0, api.ErrClass}, {math.MinInt, 0, api.ErrClass}, {4, -1, api.ErrClass}, {1 << 24, 0, api.ErrClass},
			{1, 1, api.ErrSize}, {1, -1, api.ErrSize}, {6, 2, api.ErrSize}, {2, -1, api.ErrSize}, {2, 1025, api.ErrSize}, {3, 1025, api.ErrSize},
			{0, -1, api.ErrSize}, {0, 65536, api.ErrSize}, {2, math.MaxInt, api.ErrSize}, {0, math.MinInt, api.ErrSize}, {3, 1 << 32, api.ErrSize},
		} {
			same(t, fmt.Sprintf("Lay of %d, %d at %d", k.class, k.length, at), lay(c, l, at, k.class, k.length), laid{0, k.want})
		}
	}
	sameList(t, "the words", all(c), before(80)...)
	same(t, "Lay of the last class", lay(c, l, 77, 6, 0), laid{3, api.OK})
}

// P4.1, R1: without classes there are fillers alone.
func TestLayWithoutClasses(t *testing.T) {
	for _, l := range [][]api.Class{nil, {}} {
		c := used(4)
		same(t, "Lay of a class", lay(c, l, 0, 1, 0), laid{0, api.ErrClass})
		same(t, "Lay of a filler", lay(c, l, 1, 0, 1), laid{2, api.OK})
		sameList(t, "the words", all(c), afterBlock(4, 1, 0, 1, 2)...)
	}
}

// P4.1: the greatest things there are, in the greatest memory.
func TestLayOfTheGreatest(t *testing.T) {
	l := []api.Class{{Refs: 32, Words: 32}, {Array: 1}}
	for _, k := range []struct{ class, length, size int }{{1, 0, 65}, {2, 1024, 1025}, {0, 65535, 65536}} {
		for _, at := range []int{0, api.MaxWords - k.size} {
			c := used(api.MaxWords)
			same(t, "Lay", lay(c, l, at, k.class, k.length), laid{k.size, api.OK})
			if !slices.Equal(all(c), afterBlock(api.MaxWords, at, k.class, k.length, k.size)) {
				t.Errorf("the words behind Lay of %v at %d are others", k, at)
			}
		}
		c := used(api.MaxWords)
		same(t, "Lay of one word too much", lay(c, l, api.MaxWords-k.size+1, k.class, k.length), laid{0, api.ErrAddr})
		if !slices.Equal(all(c), before(api.MaxWords)) {
			t.Errorf("the words behind Lay of %v without room are others", k)
		}
	}
}

// P4.1: a memory without cells has room for nothing.
func TestLayWithoutCells(t *testing.T) {
	for name, c := range noMemories() {
		for _, at := range []int{-1, 0, 1, math.MaxInt} {
			same(t, name, lay(c, some(), at, 1, 0), laid{0, api.ErrAddr})
			same(t, name, lay(c, some(), at, 2, 0), laid{0, api.ErrAddr})
			same(t, name, lay(c, nil, at, 0, 0), laid{0, api.ErrAddr})
			same(t, name, lay(c, some(), at, 4, 0), laid{0, api.ErrClass})
			same(t, name, lay(c, some(), at, 1, 1), laid{0, api.ErrSize})
		}
	}
}

// P4.1: Fill between all places of a memory, and outside of it.
func TestFillBetweenAllPlaces(t *testing.T) {
	const words = 7
	for from := -2; from <= words+2; from++ {
		for to := -2; to <= words+2; to++ {
			c := used(words)
			what := fmt.Sprintf("Fill(%d, %d)", from, to)
			errno := blocks.Fill(c, from, to)
			switch {
			case from < 0 || from > to || to > words:
				same(t, what, errno, api.ErrAddr)
				sameList(t, what, all(c), before(words)...)
			case from == to:
				same(t, what, errno, api.OK)
				sameList(t, what, all(c), before(words)...)
			default:
				same(t, what, errno, api.OK)
				sameList(t, what, all(c), afterBlock(words, from, 0, to-from-1, to-from)...)
			}
		}
	}
}

// P4.1: Fill to places far away, and from them.
func TestFillFarAway(t *testing.T) {
	c := used(5)
	for _, at := range far() {
		for _, k := range [][2]int{{at, 3}, {0, at}, {at, at}, {at, math.MaxInt}, {math.MinInt, at}} {
			same(t, fmt.Sprint("Fill ", k), blocks.Fill(c, k[0], k[1]), api.ErrAddr)
		}
	}
	sameList(t, "the words", all(c), before(5)...)
}

// P4.1: Fill of all cells, and of all but one at either end.
func TestFillOfTheGreatest(t *testing.T) {
	for _, k := range [][2]int{{0, 65536}, {1, 65536}, {0, 65535}} {
		c := used(api.MaxWords)
		same(t, fmt.Sprint("Fill ", k), blocks.Fill(c, k[0], k[1]), api.OK)
		if !slices.Equal(all(c), afterBlock(api.MaxWords, k[0], 0, k[1]-k[0]-1, k[1]-k[0])) {
			t.Errorf("the words behind Fill %v are others", k)
		}
	}
}

// P4.1: of a memory without cells nothing alone can be filled.
func TestFillWithoutCells(t *testing.T) {
	for name, c := range noMemories() {
		same(t, name+": Fill(0, 0)", blocks.Fill(c, 0, 0), api.OK)
		for _, k := range [][2]int{{0, 1}, {1, 1}, {-1, 0}, {-1, -1}, {1, 0}} {
			same(t, fmt.Sprint(name, ": Fill ", k), blocks.Fill(c, k[0], k[1]), api.ErrAddr)
		}
	}
}

// P4.1: the header is the one of layer 3.
func TestLayTellsLayer3sHeader(t *testing.T) {
	c := used(6)
	blocks.Lay(c, some(), 0, 2, 2)
	blocks.Fill(c, 3, 6)
	same(t, "an array's", c.Words(0, 1)[0], classes.Header(2, 2))
	same(t, "a filler's", c.Words(3, 4)[0], classes.Header(0, 2))
}
