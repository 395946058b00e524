package gang_test

import (
	"fmt"
	"math"
	"slices"
	"testing"

	"ballast/api"
	"ballast/cells"
	"ballast/gang"
)

// shared are so many parts, counted at that cell.
func shared(t *testing.T, c *cells.Cells, at, parts int) *gang.Share {
	t.Helper()
	s, errno := gang.NewShare(c, at, parts)
	if s == nil || errno != api.OK {
		t.Fatalf("NewShare(%d, %d): %v, %v", at, parts, s, errno)
	}
	return s
}

// taken is what Next tells.
type taken struct {
	part int
	ok   bool
}

func next(s *gang.Share) taken {
	part, ok := s.Next()
	return taken{part, ok}
}

// takeAll fails where the parts that are left aren't told from one on, and
// then none.
func takeAll(t *testing.T, s *gang.Share, from, parts int) {
	t.Helper()
	for part := from; part < parts; part++ {
		same(t, "Taken ahead", s.Taken(), part)
		same(t, "Next", next(s), taken{part, true})
	}
	for range 3 {
		same(t, "Taken behind all", s.Taken(), parts)
		same(t, "Next behind all", next(s), taken{0, false})
	}
}

// P10.2: the cell must be there.
func TestNewShareOfPlaces(t *testing.T) {
	for _, x := range []struct {
		words, at int
		want      api.Errno
	}{
		{30, 0, api.OK}, {30, 17, api.OK}, {30, 29, api.OK}, {30, 30, api.ErrArg}, {30, 31, api.ErrArg}, {30, -1, api.ErrArg},
		{1, 0, api.OK}, {1, 1, api.ErrArg}, {1, -1, api.ErrArg}, {0, 0, api.ErrArg}, {0, -1, api.ErrArg},
		{api.MaxWords, api.MaxWords - 1, api.OK}, {api.MaxWords, api.MaxWords, api.ErrArg},
	} {
		for _, parts := range []int{0, 1, 2, math.MaxInt} {
			s, errno := gang.NewShare(cells.New(x.words), x.at, parts)
			same(t, fmt.Sprint(x, parts), errno, x.want)
			same(t, fmt.Sprint(x, parts, " is made"), s != nil, x.want == api.OK)
		}
	}
}

// P10.2, P1: no memory; places far from all that may be.
func TestNewShareFar(t *testing.T) {
	memories := map[string]*cells.Cells{"nil": nil, "zero": {}, "none": cells.New(0), "some": cells.New(30)}
	for name, c := range memories {
		for _, at := range []int{math.MinInt, math.MinInt + 1, -1 << 40, -65536, -30, -1, 30, 65536, 1 << 32, 1 << 40, math.MaxInt - 1, math.MaxInt} {
			for _, parts := range []int{0, 1, 5, math.MaxInt, -1, math.MinInt} {
				s, errno := gang.NewShare(c, at, parts)
				if s != nil || errno != api.ErrArg {
					t.Errorf("NewShare(%s, %d, %d): %v, %v", name, at, parts, s, errno)
				}
			}
		}
	}
	for _, name := range []string{"nil", "zero", "none"} {
		s, errno := gang.NewShare(memories[name], 0, 1)
		same(t, name+": NewShare", errno, api.ErrArg)
		same(t, name+": is none", s == nil, true)
	}
}

// P10.2: parts are not below 0; 0 are some.
func TestNewShareOfParts(t *testing.T) {
	c := cells.New(3)
	for _, parts := range []int{0, 1, 2, 3, 64, 65, 1 << 20, 1 << 40, math.MaxInt} {
		s := shared(t, c, 1, parts)
		same(t, fmt.Sprint(parts, " parts: Taken"), s.Taken(), 0)
		same(t, fmt.Sprint(parts, " parts: Next"), next(s), taken{0, parts > 0})
		same(t, fmt.Sprint(parts, " parts: Taken"), s.Taken(), min(parts, 1))
	}
	for _, parts := range []int{-1, -2, -64, -1 << 32, -1<<32 + 5, math.MinInt, math.MinInt + 1} {
		s, errno := gang.NewShare(c, 1, parts)
		if s != nil || errno != api.ErrArg {
			t.Errorf("NewShare of %d parts: %v, %v", parts, s, errno)
		}
	}
}

// P10.2: the cell is 0, whatever it held, without an access; the others stay.
func TestNewShareClearsItsCell(t *testing.T) {
	for _, held := range []int64{0, 1, 9, -1, math.MinInt64, math.MaxInt64} {
		c := cells.New(4)
		c.Put(0, 90, 91, held, 92)
		s := shared(t, c, 2, 3)
		sameList(t, "cells", c.Words(0, 4), 90, 91, 0, 92)
		same(t, "accesses", c.Steps(), 0)
		same(t, "Taken", s.Taken(), 0)
		same(t, "accesses of Taken", c.Steps(), 0)
		takeAll(t, s, 0, 3)
		sameList(t, "cells", c.Words(0, 4), 90, 91, 6, 92)
	}
}

// P10.2, R2: with an error no cell is written.
func TestNewShareWithAnErrorWritesNothing(t *testing.T) {
	c := cells.New(3)
	words := []int64{7, 8, 9}
	c.Put(0, words...)
	for _, x := range [][2]int{{1, -1}, {0, math.MinInt}, {-1, 2}, {3, 2}, {3, -1}} {
		_, errno := gang.NewShare(c, x[0], x[1])
		same(t, fmt.Sprint("NewShare of ", x), errno, api.ErrArg)
	}
	sameList(t, "cells", c.Words(0, 3), words...)
	same(t, "accesses", c.Steps(), 0)
}

// P10.2: the chapter's example.
func TestNextOfTwo(t *testing.T) {
	s := shared(t, cells.New(1), 0, 2)
	same(t, "Next", next(s), taken{0, true})
	same(t, "Next", next(s), taken{1, true})
	same(t, "Next", next(s), taken{0, false})
	s.Reset(1)
	same(t, "Next behind Reset(1)", next(s), taken{0, true})
	same(t, "Next behind Reset(1)", next(s), taken{0, false})
}

// P10.2: Next is one access, at its own cell, which is one more; also where
// there is no part left, and asked on and on.
func TestNextIsOneAccess(t *testing.T) {
	for parts := range 6 {
		c := cells.New(3)
		c.Put(0, 70, 0, 71)
		s := shared(t, c, 1, parts)
		for asked := range 20 {
			want := taken{asked, true}
			if asked >= parts {
				want = taken{0, false}
			}
			same(t, fmt.Sprint("Next of ", parts), next(s), want)
			same(t, "accesses", c.Steps(), asked+1)
			sameList(t, "cells", c.Words(0, 3), 70, int64(asked+1), 71)
			same(t, "Taken", s.Taken(), min(asked+1, parts))
			same(t, "accesses of Taken", c.Steps(), asked+1)
		}
	}
}

// R5: many parts are told all, each once, in order.
func TestManyParts(t *testing.T) {
	const parts = 100000
	c := cells.New(1)
	s := shared(t, c, 0, parts)
	for part := range parts {
		if got := next(s); got != (taken{part, true}) {
			t.Fatalf("part %d: %v", part, got)
		}
	}
	takeAll(t, s, parts, parts)
	same(t, "accesses", c.Steps(), parts+3)
}

// P10.2: what the cell was is told if it is from 0 to below parts, whatever
// else was written there.
func TestNextOfAnyWord(t *testing.T) {
	for _, x := range []struct {
		word  int64
		parts int
		want  taken
	}{
		{0, 5, taken{0, true}}, {3, 5, taken{3, true}}, {4, 5, taken{4, true}}, {5, 5, taken{}}, {6, 5, taken{}}, {-1, 5, taken{}},
		{math.MinInt64, 5, taken{}}, {math.MaxInt64, 5, taken{}}, {1 << 32, 5, taken{}}, {-1 << 32, 5, taken{}}, {1<<32 + 2, 5, taken{}},
		{math.MaxInt64 - 1, math.MaxInt, taken{math.MaxInt - 1, true}}, {math.MaxInt64, math.MaxInt, taken{}}, {math.MinInt64, math.MaxInt, taken{}},
		{-1, math.MaxInt, taken{}}, {-1, 0, taken{}}, {0, 0, taken{}}, {1, 0, taken{}},
	} {
		c := cells.New(2)
		s := shared(t, c, 1, x.parts)
		c.Put(1, x.word)
		same(t, fmt.Sprint("Next of ", x), next(s), x.want)
		sameList(t, fmt.Sprint("cells of ", x), c.Words(0, 2), 0, x.word+1)
		same(t, "accesses", c.Steps(), 1)
	}
}

// P10.2: Taken is from 0 to as many as there are, whatever was written, and
// never an access.
func TestTakenIsKept(t *testing.T) {
	c := cells.New(2)
	s := shared(t, c, 1, 5)
	for _, x := range []struct {
		word int64
		want int
	}{{0, 0}, {1, 1}, {4, 4}, {5, 5}, {6, 5}, {math.MaxInt64, 5}, {1 << 32, 5}, {-1, 0}, {math.MinInt64, 0}} {
		c.Put(1, x.word)
		same(t, fmt.Sprint("Taken at ", x.word), s.Taken(), x.want)
		sameList(t, "the cell", c.Words(1, 2), x.word)
	}
	same(t, "accesses", c.Steps(), 0)
}

// P10.2: Reset without parts has as many as before, from each stand on.
func TestResetWithoutParts(t *testing.T) {
	for _, parts := range []int{0, 1, 4} {
		for asked := range 7 {
			c := cells.New(2)
			c.Put(0, 60)
			s := shared(t, c, 1, parts)
			for range asked {
				s.Next()
			}
			s.Reset()
			same(t, "Taken", s.Taken(), 0)
			sameList(t, "cells", c.Words(0, 2), 60, 0)
			same(t, "accesses", c.Steps(), asked)
			takeAll(t, s, 0, parts)
			s.Reset([]int{}...)
			takeAll(t, s, 0, parts)
		}
	}
}

// P10.2: Reset has as many parts as the last of these says: more, fewer, none,
// as many; without an access.
func TestResetWithParts(t *testing.T) {
	for _, handed := range [][]int{{0}, {1}, {2}, {3}, {9}, {1, 2}, {9, 0}, {0, 9}, {5, 1}, {1, 5}, {4, 4, 4}, {math.MaxInt, 6}, {8, 0, 3, 2}} {
		want := handed[len(handed)-1]
		for asked := range 5 {
			c := cells.New(2)
			c.Put(0, 60)
			s := shared(t, c, 1, 3)
			for range asked {
				s.Next()
			}
			s.Reset(handed...)
			what := fmt.Sprint("Reset of ", handed, " behind ", asked)
			same(t, what+": Taken", s.Taken(), 0)
			sameList(t, what+": cells", c.Words(0, 2), 60, 0)
			same(t, what+": accesses", c.Steps(), asked)
			takeAll(t, s, 0, want)
			s.Reset()
			takeAll(t, s, 0, want)
		}
	}
}

// P10.2: Reset with one below 0 among them changes nothing: neither the cell
// nor how many parts there are.
func TestResetBelow0(t *testing.T) {
	for _, handed := range [][]int{{-1}, {math.MinInt}, {-1, 5}, {5, -1}, {5, -1, 5}, {0, 0, 0, -7, 0}, {-1 << 32}, {-2, -3}, {math.MaxInt, math.MinInt, 1}} {
		for asked := range 6 {
			c := cells.New(2)
			c.Put(0, 60)
			s := shared(t, c, 1, 3)
			for range asked {
				s.Next()
			}
			s.Reset(handed...)
			what := fmt.Sprint("Reset of ", handed, " behind ", asked)
			same(t, what+": Taken", s.Taken(), min(asked, 3))
			sameList(t, what+": cells", c.Words(0, 2), 60, int64(asked))
			same(t, what+": accesses", c.Steps(), asked)
			takeAll(t, s, min(asked, 3), 3)
			s.Reset()
			takeAll(t, s, 0, 3)
		}
	}
}

// P10.2: Reset again and again, Taken ahead of, between and behind.
func TestResetAgain(t *testing.T) {
	s := shared(t, cells.New(1), 0, 0)
	takeAll(t, s, 0, 0)
	for _, parts := range []int{3, 0, 7, 7, 1, 2, 40} {
		s.Reset(parts)
		takeAll(t, s, 0, parts)
		s.Reset(-parts - 1)
		takeAll(t, s, parts, parts)
	}
}

// R3, R5: the list that Reset is handed stays, may be long, and may be changed
// later.
func TestResetLeavesItsList(t *testing.T) {
	s := shared(t, cells.New(1), 0, 1)
	handed := slices.Repeat([]int{6, 2, 0, 4}, 50000)
	kept := slices.Clone(handed)
	s.Reset(handed...)
	sameList(t, "what Reset was handed", handed, kept...)
	clear(handed)
	takeAll(t, s, 0, 4)
	handed[0] = -1
	s.Reset(handed...)
	takeAll(t, s, 4, 4)
}

// R3: the memory is the share's own part: two of one cell take from one count.
func TestMemoryIsShared(t *testing.T) {
	c := cells.New(2)
	s, other := shared(t, c, 1, 4), shared(t, c, 1, 4)
	same(t, "Next", next(s), taken{0, true})
	same(t, "Next of the other", next(other), taken{1, true})
	same(t, "Next", next(s), taken{2, true})
	sameList(t, "cells", c.Words(0, 2), 0, 3)
	other.Reset()
	same(t, "Next behind the other's Reset", next(s), taken{0, true})
	same(t, "Steps of its memory", s.Steps(), c.Steps())
	same(t, "Len of its memory", s.Len(), 2)
}

// P10.2: shares side by side leave each other alone, and what is around them.
func TestSideBySide(t *testing.T) {
	c := cells.New(4)
	c.Put(0, -7, 1, 1, -8)
	s, other := shared(t, c, 1, 3), shared(t, c, 2, 2)
	same(t, "Next", next(s), taken{0, true})
	same(t, "Next", next(s), taken{1, true})
	same(t, "Taken of the other", other.Taken(), 0)
	same(t, "Next of the other", next(other), taken{0, true})
	s.Reset(8)
	same(t, "Taken of the other", other.Taken(), 1)
	takeAll(t, other, 1, 2)
	takeAll(t, s, 0, 8)
	sameList(t, "cells", c.Words(0, 4), -7, 11, 5, -8)
}

// noneOf fails where a share has something to tell.
func noneOf(t *testing.T, name string, s *gang.Share) {
	t.Helper()
	same(t, name+": Next", next(s), taken{0, false})
	same(t, name+": Taken", s.Taken(), 0)
}

// resets are lists for Reset.
func resets() [][]int {
	return [][]int{nil, {}, {0}, {1}, {5, 3}, {-1}, {3, -1}, {math.MaxInt}, {math.MinInt}}
}

// Below P10.3: a nil share is none, at each call.
func TestNilShare(t *testing.T) {
	var s *gang.Share
	noneOf(t, "nil", s)
	for _, handed := range resets() {
		s.Reset(handed...)
		noneOf(t, fmt.Sprint("nil behind Reset of ", handed), s)
	}
}

// Below P10.3: a zero share has no parts, and no cell to count any in, at each
// call.
func TestZeroShare(t *testing.T) {
	for _, s := range []*gang.Share{{}, new(gang.Share), {Cells: cells.New(0)}} {
		noneOf(t, "zero", s)
		for _, handed := range resets() {
			s.Reset(handed...)
			noneOf(t, fmt.Sprint("zero behind Reset of ", handed), s)
		}
	}
}
