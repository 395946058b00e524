package cells_test

import (
	"math"
	"testing"

	"ballast/api"
	"ballast/cells"
)

// P1.2: Words keeps both of its ends from 0 to Len.
func TestWordsKeepsItsEnds(t *testing.T) {
	c := cells.New(4)
	c.Put(0, 1, 2, 3, 4)
	for _, k := range []struct {
		from, to int
		want     []int64
	}{
		{0, 4, []int64{1, 2, 3, 4}},
		{1, 3, []int64{2, 3}},
		{0, 1, []int64{1}},
		{3, 4, []int64{4}},
		{-5, 2, []int64{1, 2}},
		{2, 9, []int64{3, 4}},
		{math.MinInt, math.MaxInt, []int64{1, 2, 3, 4}},
		{0, 0, nil},
		{4, 4, nil},
		{2, 2, nil},
		{3, 1, nil},
		{9, 2, nil},
		{2, -1, nil},
		{4, 9, nil},
		{7, 9, nil},
		{-9, -1, nil},
		{-9, 0, nil},
		{math.MaxInt, math.MinInt, nil},
	} {
		sameWords(t, "Words", c.Words(k.from, k.to), k.want...)
	}
	same(t, "Steps", c.Steps(), 0)
}

// P1.2, R3: what Words told is its owner's, from then on.
func TestWordsIsACopy(t *testing.T) {
	c := cells.New(3)
	c.Put(0, 1, 2, 3)
	first, second := c.Words(0, 3), c.Words(0, 2)
	first[0] = 9
	_ = append(second, 9)
	sameWords(t, "the memory", c.Words(0, 3), 1, 2, 3)
	sameWords(t, "another copy", second, 1, 2)
	c.Store(1, 8)
	c.Put(2, 7)
	sameWords(t, "a copy later", first, 9, 2, 3)
}

// P1.2: Put has the cells from its place on be its words, and no others.
func TestPut(t *testing.T) {
	c := cells.New(4)
	same(t, "Put(0, ..)", c.Put(0, 1, 2, 3, 4), api.OK)
	sameWords(t, "all", c.Words(0, 4), 1, 2, 3, 4)
	same(t, "Put(1, ..)", c.Put(1, -7, math.MinInt64), api.OK)
	sameWords(t, "all", c.Words(0, 4), 1, -7, math.MinInt64, 4)
	same(t, "Put(3, 9)", c.Put(3, 9), api.OK)
	sameWords(t, "all", c.Words(0, 4), 1, -7, math.MinInt64, 9)
	same(t, "Load(3)", load(c, 3), told{word: 9})
}

// P1.2: no words fit at each place up to Len, that one too.
func TestPutOfNothing(t *testing.T) {
	c := cells.New(2)
	c.Put(0, 1, 2)
	for at := 0; at <= 2; at++ {
		same(t, "Put", c.Put(at), api.OK)
		same(t, "Put of a nil list", c.Put(at, []int64(nil)...), api.OK)
	}
	for _, at := range []int{math.MinInt, -1, 3, math.MaxInt} {
		same(t, "Put outside", c.Put(at), api.ErrAddr)
	}
	sameWords(t, "all", c.Words(0, 2), 1, 2)
}

// P1.2, R5: a Put that doesn't fit, by one word or by many, changes nothing.
func TestPutThatDoesNotFit(t *testing.T) {
	c := cells.New(3)
	c.Put(0, 1, 2, 3)
	long := make([]int64, 2*api.MaxWords)
	for _, k := range []struct {
		at int
		l  []int64
	}{
		{2, []int64{8, 9}},
		{0, []int64{6, 7, 8, 9}},
		{3, []int64{9}},
		{4, []int64{9}},
		{-1, []int64{9}},
		{-1, []int64{9, 9}},
		{0, long},
		{2, long},
		{math.MaxInt, []int64{9}},
		{math.MaxInt, long},
		{math.MinInt, long},
	} {
		same(t, "Put", c.Put(k.at, k.l...), api.ErrAddr)
		sameWords(t, "all", c.Words(0, 3), 1, 2, 3)
	}
}

// P1.2, R3: what is put stays as it is, and its owner may change it then.
func TestPutKeepsNoList(t *testing.T) {
	c := cells.New(3)
	l := []int64{4, 5, 6}
	c.Put(0, l...)
	c.Store(0, 9)
	sameWords(t, "the list", l, 4, 5, 6)
	l[1] = 8
	sameWords(t, "the memory", c.Words(0, 3), 9, 5, 6)
}

// P1.2: a memory of MaxWords is told and put whole.
func TestWholeMemory(t *testing.T) {
	c := cells.New(api.MaxWords)
	l := make([]int64, api.MaxWords)
	for i := range l {
		l[i] = int64(i) * -3
	}
	same(t, "Put", c.Put(0, l...), api.OK)
	sameWords(t, "all", c.Words(0, api.MaxWords), l...)
	same(t, "Put of one more", c.Put(1, l...), api.ErrAddr)
	same(t, "Load of the last", load(c, api.MaxWords-1), told{word: 65535 * -3})
}
