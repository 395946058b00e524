package blocks_test

import (
	"fmt"
	"math"
	"slices"
	"testing"

	"ballast/api"
	"ballast/blocks"
	"ballast/cells"
)

// got holds what Read told.
type got struct {
	b     api.Block
	errno api.Errno
}

func read(c *cells.Cells, l []api.Class, at int) got {
	b, errno := blocks.Read(c, l, at)
	return got{b, errno}
}

func walk(t *testing.T, what string, c *cells.Cells, l []api.Class, from, to int, want ...api.Block) {
	t.Helper()
	told, errno := blocks.Walk(c, l, from, to)
	same(t, what, errno, api.OK)
	sameList(t, what, told, want...)
}

func noWalk(t *testing.T, what string, c *cells.Cells, l []api.Class, from, to int, want api.Errno) {
	t.Helper()
	told, errno := blocks.Walk(c, l, from, to)
	same(t, what, errno, want)
	sameList(t, what, told)
}

// example is the memory of the chapter's first example.
func example() *cells.Cells {
	c := used(11)
	blocks.Lay(c, some(), 1, 1, 0)
	blocks.Lay(c, some(), 5, 3, 2)
	blocks.Fill(c, 8, 11)
	return c
}

// header is a word as the words of chapter 3 have a header.
func header(class, length int64) int64 { return 1<<62 + class<<32 + length }

// P4.2: Read of the example's blocks, and of each other place.
func TestReadOfTheExample(t *testing.T) {
	c := example()
	blockAt := map[int]api.Block{1: {At: 1, Class: 1, Len: 0, Size: 4}, 5: {At: 5, Class: 3, Len: 2, Size: 3}, 8: {At: 8, Class: 0, Len: 2, Size: 3}}
	for at := range 11 {
		want := got{errno: api.ErrHeap}
		if b, ok := blockAt[at]; ok {
			want = got{b: b}
		}
		same(t, fmt.Sprint("Read at ", at), read(c, some(), at), want)
	}
	for _, at := range append(far(), -1, -2, 11, 12) {
		same(t, fmt.Sprint("Read at ", at), read(c, some(), at), got{errno: api.ErrAddr})
	}
}

// P4.2: words that are no headers, though some of their bits are.
func TestReadOfNoHeader(t *testing.T) {
	for _, w := range []int64{0, 1, 5, -1, 1 << 61, 1<<62 - 1, 1<<62 + 1<<56, 1<<62 + 1<<61, math.MinInt64, math.MinInt64 + 1<<62, math.MaxInt64, header(0, 0) + math.MinInt64, 1 << 32} {
		c := cells.New(9)
		c.Put(3, w)
		same(t, fmt.Sprintf("Read of %#x", w), read(c, some(), 3), got{errno: api.ErrHeap})
	}
}

// P4.2: headers whose class or length may not be.
func TestReadOfAHeaderThatMayNotBe(t *testing.T) {
	l := append(some(), api.Class{Array: 1, Words: 1}, api.Class{Refs: -1}, api.Class{})
	for _, w := range []int64{
		header(4, 0), header(5, 0), header(7, 0), header(16, 0), header(1<<24-1, 0), header(1<<24-1, 1<<32-1),
		header(1, 1), header(1, 1<<32-1), header(6, 1), header(2, 1025), header(3, 1025), header(2, 1<<31), header(3, 1<<32-1),
		header(0, 65536), header(0, 1<<31), header(0, 1<<32-1),
	} {
		c := cells.New(api.MaxWords)
		c.Put(0, w)
		same(t, fmt.Sprintf("Read of %#x", w), read(c, l, 0), got{errno: api.ErrHeap})
	}
	c := cells.New(1)
	c.Put(0, header(6, 0))
	same(t, "Read of the last class", read(c, l, 0), got{b: api.Block{Class: 6, Size: 1}})
	same(t, "Read without that class", read(c, l[:5], 0), got{errno: api.ErrHeap})
	same(t, "Read without classes", read(c, nil, 0), got{errno: api.ErrHeap})
	blocks.Fill(c, 0, 1)
	same(t, "Read of a filler without classes", read(c, nil, 0), got{b: api.Block{Size: 1}})
}

// P4.2: a block that ends just at the memory's end, and one that goes beyond.
func TestReadAtTheEnd(t *testing.T) {
	for _, k := range []struct{ class, length, size int }{{1, 0, 4}, {2, 0, 1}, {2, 5, 6}, {3, 7, 8}, {0, 0, 1}, {0, 6, 7}, {2, 1024, 1025}} {
		words := k.size + 3
		for at := range words {
			c := cells.New(words)
			c.Put(at, header(int64(k.class), int64(k.length)))
			want := got{errno: api.ErrHeap}
			if at+k.size <= words {
				want = got{b: api.Block{At: at, Class: k.class, Len: k.length, Size: k.size}}
			}
			if told := read(c, some(), at); told != want {
				t.Fatalf("Read of %v at %d: %v, want %v", k, at, told, want)
			}
		}
	}
	c := cells.New(api.MaxWords)
	blocks.Fill(c, 0, api.MaxWords)
	same(t, "Read of all", read(c, nil, 0), got{b: api.Block{Len: 65535, Size: 65536}})
	c.Put(1, header(0, 65535))
	same(t, "Read of one too many", read(c, nil, 1), got{errno: api.ErrHeap})
}

// P4.2: the words behind a header may be any.
func TestReadOfAnyWords(t *testing.T) {
	c := used(6)
	c.Put(1, header(1, 0), header(1, 0), -1, math.MinInt64)
	same(t, "Read", read(c, some(), 1), got{b: api.Block{At: 1, Class: 1, Size: 4}})
	same(t, "Read of what looks like one within it", read(c, some(), 2), got{b: api.Block{At: 2, Class: 1, Size: 4}})
}

// P4.2: there is nothing to be read where there is no cell.
func TestReadWithoutCells(t *testing.T) {
	for name, c := range noMemories() {
		for _, at := range append(far(), -1, 0, 1) {
			same(t, fmt.Sprint(name, ": Read at ", at), read(c, some(), at), got{errno: api.ErrAddr})
		}
	}
}

// P4.2: the example's Walks, and those from and to each other place.
func TestWalkOfTheExample(t *testing.T) {
	c := example()
	blocksOf := []api.Block{{At: 1, Class: 1, Size: 4}, {At: 5, Class: 3, Len: 2, Size: 3}, {At: 8, Len: 2, Size: 3}}
	ends := []int{1, 5, 8, 11}
	for from := -2; from <= 13; from++ {
		for to := -2; to <= 13; to++ {
			what := fmt.Sprintf("Walk(%d, %d)", from, to)
			first, last := slices.Index(ends, from), slices.Index(ends, to)
			switch {
			case from < 0 || from > to || to > 11:
				noWalk(t, what, c, some(), from, to, api.ErrAddr)
			case from == to:
				walk(t, what, c, some(), from, to)
			case first >= 0 && last >= 0:
				walk(t, what, c, some(), from, to, blocksOf[first:last]...)
			default:
				noWalk(t, what, c, some(), from, to, api.ErrHeap)
			}
		}
	}
	noWalk(t, "Walk without class 3", c, some()[:2], 1, 11, api.ErrHeap)
	walk(t, "Walk without class 3, ahead of it", c, some()[:2], 1, 5, blocksOf[0])
}

// P4.2: Walk from places far away, and to them.
func TestWalkFarAway(t *testing.T) {
	c := example()
	for _, at := range far() {
		for _, k := range [][2]int{{at, 5}, {1, at}, {at, at}, {at, math.MaxInt}, {math.MinInt, at}} {
			noWalk(t, fmt.Sprint("Walk ", k), c, some(), k[0], k[1], api.ErrAddr)
		}
	}
}

// P4.2: a heap's last block ends just at its end, goes beyond it though it has
// cells there, or ends ahead of it, with words behind that are no block.
func TestWalkToItsEnd(t *testing.T) {
	c := used(10)
	blocks.Lay(c, some(), 0, 2, 2)
	blocks.Lay(c, some(), 3, 3, 3)
	first, last := api.Block{At: 0, Class: 2, Len: 2, Size: 3}, api.Block{At: 3, Class: 3, Len: 3, Size: 4}
	walk(t, "just", c, some(), 0, 7, first, last)
	noWalk(t, "beyond, by a word", c, some(), 0, 6, api.ErrHeap)
	noWalk(t, "beyond, by all but a word", c, some(), 0, 4, api.ErrHeap)
	noWalk(t, "ahead, by a word", c, some(), 0, 8, api.ErrHeap)
	noWalk(t, "ahead, by all cells", c, some(), 0, 10, api.ErrHeap)
	c.Put(7, 0, 0, 0)
	noWalk(t, "ahead of zeros", c, some(), 0, 10, api.ErrHeap)
	c.Put(7, header(0, 3))
	noWalk(t, "a last one that goes beyond the cells", c, some(), 0, 10, api.ErrHeap)
	c.Put(7, header(0, 2))
	walk(t, "all cells", c, some(), 0, 10, first, last, api.Block{At: 7, Len: 2, Size: 3})
}

// P4.2: the greatest heaps: as many blocks as there are words, and one.
func TestWalkOfTheGreatest(t *testing.T) {
	c := cells.New(api.MaxWords)
	for at := range api.MaxWords {
		c.Put(at, header(int64(at%2), 0))
	}
	told, errno := blocks.Walk(c, []api.Class{{}}, 0, api.MaxWords)
	same(t, "Walk", errno, api.OK)
	same(t, "how many", len(told), api.MaxWords)
	for at, b := range told {
		if b != (api.Block{At: at, Class: at % 2, Size: 1}) {
			t.Fatalf("the block %d: %v", at, b)
		}
	}
	blocks.Fill(c, 0, api.MaxWords)
	walk(t, "Walk of one", c, nil, 0, api.MaxWords, api.Block{Len: 65535, Size: 65536})
}

// P4.2: no words are walked as no blocks, wherever they have a place.
func TestWalkOfNothing(t *testing.T) {
	c := used(3)
	for at := 0; at <= 3; at++ {
		walk(t, "Walk of no words", c, some(), at, at)
	}
	for name, c := range noMemories() {
		walk(t, name, c, some(), 0, 0)
		for _, k := range [][2]int{{0, 1}, {1, 1}, {-1, 0}, {-1, -1}, {1, 0}} {
			noWalk(t, fmt.Sprint(name, ": Walk ", k), c, some(), k[0], k[1], api.ErrAddr)
		}
	}
}

// P4.2: the words of references, in their order, and no others.
func TestRefs(t *testing.T) {
	l := append(some(), api.Class{Words: 2}, api.Class{Refs: 3})
	c := cells.New(20)
	c.Put(0, 100, 101, 102, 103, 104, 105, -1, 0, math.MinInt64, 109)
	for _, k := range []struct {
		b    api.Block
		want []int64
	}{
		{api.Block{At: 0, Class: 1, Size: 4}, []int64{101, 102}},
		{api.Block{At: 5, Class: 1, Size: 4}, []int64{-1, 0}},
		{api.Block{At: 1, Class: 2, Len: 0, Size: 1}, nil},
		{api.Block{At: 1, Class: 2, Len: 3, Size: 4}, []int64{102, 103, 104}},
		{api.Block{At: 5, Class: 2, Len: 4, Size: 5}, []int64{-1, 0, math.MinInt64, 109}},
		{api.Block{At: 1, Class: 3, Len: 3, Size: 4}, nil},
		{api.Block{At: 1, Class: 4, Size: 3}, nil},
		{api.Block{At: 2, Class: 5, Size: 4}, []int64{103, 104, 105}},
		{api.Block{At: 1, Class: 0, Len: 3, Size: 4}, nil},
		{api.Block{}, nil},
	} {
		sameList(t, fmt.Sprint("Refs of ", k.b), blocks.Refs(c, l, k.b), k.want...)
	}
}

// P4.2: a block that stands partly or wholly outside the cells has the
// references that have a cell.
func TestRefsOutsideTheCells(t *testing.T) {
	c := cells.New(4)
	c.Put(0, 100, 101, 102, 103)
	for at := -8; at <= 8; at++ {
		var want []int64
		for word := 1; word <= 5; word++ {
			if at+word >= 0 && at+word < 4 {
				want = append(want, int64(100+at+word))
			}
		}
		sameList(t, fmt.Sprint("Refs at ", at), blocks.Refs(c, some(), api.Block{At: at, Class: 2, Len: 5, Size: 6}), want...)
	}
	for _, at := range append(far(), math.MaxInt-1024, math.MinInt+1024) {
		sameList(t, fmt.Sprint("Refs at ", at), blocks.Refs(c, some(), api.Block{At: at, Class: 2, Len: 1024, Size: 1025}))
	}
	for name, c := range noMemories() {
		for at := -3; at <= 3; at++ {
			sameList(t, name, blocks.Refs(c, some(), api.Block{At: at, Class: 1, Size: 4}))
		}
	}
}

// P4.2: of a block made by hand its class and length hold, whatever its size
// or the word at its address; of one that may not be there are none.
func TestRefsOfABlockMadeByHand(t *testing.T) {
	c := example()
	c.Put(2, 5, 8)
	for _, size := range []int{0, 1, 4, -1, math.MaxInt, math.MinInt} {
		sameList(t, fmt.Sprint("Refs, the size ", size), blocks.Refs(c, some(), api.Block{At: 1, Class: 1, Size: size}), 5, 8)
	}
	sameList(t, "Refs of another class than the header's", blocks.Refs(c, some(), api.Block{At: 1, Class: 2, Len: 1, Size: 2}), 5)
	sameList(t, "Refs where no header is", blocks.Refs(c, some(), api.Block{At: 2, Class: 2, Len: 2, Size: 3}), 8, 0)
	l := append(some(), api.Class{Array: 3}, api.Class{Refs: 64, Words: 1})
	for _, b := range []api.Block{
		{At: 1, Class: 1, Len: 1, Size: 4}, {At: 1, Class: 1, Len: -1, Size: 4}, {At: 1, Class: 2, Len: -1}, {At: 1, Class: 2, Len: 1025, Size: 1026},
		{At: 1, Class: 2, Len: math.MaxInt}, {At: 1, Class: 2, Len: math.MinInt}, {At: 1, Class: 4}, {At: 1, Class: 5, Size: 66}, {At: 1, Class: 6}, {At: 1, Class: -1},
		{At: 1, Class: math.MaxInt}, {At: 1, Class: math.MinInt}, {At: math.MinInt, Class: math.MaxInt, Len: math.MaxInt, Size: math.MaxInt},
	} {
		sameList(t, fmt.Sprint("Refs of ", b), blocks.Refs(c, l, b))
	}
	sameList(t, "Refs without classes", blocks.Refs(c, nil, api.Block{At: 1, Class: 1, Size: 4}))
}
