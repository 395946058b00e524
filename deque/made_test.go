package deque_test

import (
	"fmt"
	"math"
	"slices"
	"testing"

	"ballast/api"
	"ballast/cells"
	"ballast/deque"
)

func same[T comparable](t *testing.T, what string, got, want T) {
	t.Helper()
	if got != want {
		t.Errorf("%s: %v, want %v", what, got, want)
	}
}

func sameList(t *testing.T, what string, got, want []int64) {
	t.Helper()
	if !slices.Equal(got, want) {
		t.Errorf("%s: %v, want %v", what, got, want)
	}
}

// made is a deque at base of just enough cells.
func made(t *testing.T, base, slots, over int) (*deque.Deque, *cells.Cells) {
	t.Helper()
	c := cells.New(base + deque.Need(slots, over))
	d, errno := deque.New(c, base, slots, over)
	if d == nil || errno != api.OK {
		t.Fatalf("New(%d, %d, %d): %v, %v", base, slots, over, d, errno)
	}
	return d, c
}

// told is what Value tells.
type told struct {
	word  int64
	errno api.Errno
}

func value(o *deque.Op) told {
	w, errno := o.Value()
	return told{w, errno}
}

// end has the operation done by itself, and is what it tells.
func end(o *deque.Op) told {
	for range 1000 {
		if o.Step() {
			break
		}
	}
	return value(o)
}

func far() []int {
	return []int{math.MinInt, math.MinInt + 1, -1 << 40, -65537, -1, 65537, 1 << 40, math.MaxInt - 1, math.MaxInt}
}

// none are deques that are none.
func none() map[string]*deque.Deque {
	return map[string]*deque.Deque{"nil": nil, "zero": {}}
}

// P6.1: 4 + cap + over, or 0.
func TestNeed(t *testing.T) {
	for _, x := range []struct{ slots, over, want int }{
		{1, 0, 5}, {2, 1, 7}, {64, 0, 68}, {1, 4096, 4101}, {64, 4096, 4164}, {17, 300, 321},
		{0, 0, 0}, {0, 1, 0}, {0, 4096, 0}, {-1, 5, 0}, {65, 0, 0}, {65, 4096, 0},
		{1, -1, 0}, {64, -1, 0}, {1, 4097, 0}, {64, 4097, 0}, {-4, 8, 0}, {65, 4097, 0}, {0, -1, 0},
	} {
		same(t, fmt.Sprintf("Need(%d, %d)", x.slots, x.over), deque.Need(x.slots, x.over), x.want)
	}
	for _, n := range far() {
		for _, m := range append(far(), 0, 1, 7) {
			same(t, fmt.Sprintf("Need(%d, %d)", n, m), deque.Need(n, m), 0)
		}
		same(t, fmt.Sprintf("Need(7, %d)", n), deque.Need(7, n), 0)
	}
}

// P6.1: Need and New agree on what may be.
func TestNeedAndNewAgree(t *testing.T) {
	c := cells.New(api.MaxWords)
	for slots := -2; slots <= 67; slots++ {
		for _, over := range []int{-2, -1, 0, 1, 2, 4095, 4096, 4097, 4098} {
			may := slots >= 1 && slots <= 64 && over >= 0 && over <= 4096
			what := fmt.Sprintf("%d slots, %d over", slots, over)
			d, errno := deque.New(c, 9, slots, over)
			same(t, what+": is made", d != nil, may)
			same(t, what+": OK", errno == api.OK, may)
			if may {
				same(t, what+": Need", deque.Need(slots, over), 4+slots+over)
				continue
			}
			same(t, what+": error", errno, api.ErrArg)
			same(t, what+": Need", deque.Need(slots, over), 0)
		}
	}
}

// P6.1: the cells from base on must be there.
func TestNewOfPlaces(t *testing.T) {
	for _, x := range []struct {
		words, base, slots, over int
		want                     api.Errno
	}{
		{20, 5, 2, 1, api.OK}, {20, 13, 2, 1, api.OK}, {20, 14, 2, 1, api.ErrArg}, {20, 0, 2, 14, api.OK}, {20, 0, 2, 15, api.ErrArg},
		{20, -1, 2, 1, api.ErrArg}, {20, -7, 2, 1, api.ErrArg}, {20, 20, 1, 0, api.ErrArg}, {20, 21, 1, 0, api.ErrArg},
		{5, 0, 1, 0, api.OK}, {4, 0, 1, 0, api.ErrArg}, {5, 1, 1, 0, api.ErrArg}, {0, 0, 1, 0, api.ErrArg},
		{4164, 0, 64, 4096, api.OK}, {4163, 0, 64, 4096, api.ErrArg}, {4164, 1, 64, 4096, api.ErrArg},
		{api.MaxWords, api.MaxWords - 5, 1, 0, api.OK}, {api.MaxWords, api.MaxWords - 4, 1, 0, api.ErrArg},
	} {
		d, errno := deque.New(cells.New(x.words), x.base, x.slots, x.over)
		same(t, fmt.Sprint(x), errno, x.want)
		same(t, fmt.Sprint(x), d != nil, x.want == api.OK)
	}
}

// P6.1, P1: base and need together may go beyond any int.
func TestNewFar(t *testing.T) {
	memories := map[string]*cells.Cells{"nil": nil, "zero": {}, "none": cells.New(0), "some": cells.New(30), "most": cells.New(api.MaxWords)}
	for name, c := range memories {
		for _, n := range far() {
			for _, x := range [][3]int{{n, 1, 0}, {n, 64, 4096}, {n, n, n}, {0, n, 0}, {0, 1, n}, {math.MaxInt - 5, 1, 0}, {math.MaxInt - 4, 1, 0}} {
				d, errno := deque.New(c, x[0], x[1], x[2])
				if d != nil || errno != api.ErrArg {
					t.Errorf("New(%s, %v): %v, %v", name, x, d, errno)
				}
			}
		}
	}
	d, errno := deque.New(nil, 0, 1, 0)
	same(t, "of no memory", errno, api.ErrArg)
	same(t, "of no memory", d == nil, true)
}

// P6.1: nothing is written, and there is no access; what lies in the cells is
// the deque.
func TestNewWritesNothing(t *testing.T) {
	c := cells.New(12)
	words := []int64{90, 91, 3, 5, 0, 1, 30, 31, 32, 40, 41, 92}
	c.Put(0, words...)
	d, errno := deque.New(c, 2, 3, 2)
	same(t, "New", errno, api.OK)
	sameList(t, "cells", c.Words(0, 12), words)
	same(t, "Steps", c.Steps(), 0)
	sameList(t, "Items", d.Items(), []int64{30, 31, 40})
	same(t, "Steal", end(d.Steal()), told{30, api.OK})
}

// P6.1: zeros are an empty one.
func TestZerosAreEmpty(t *testing.T) {
	d, c := made(t, 3, 4, 2)
	same(t, "Items", len(d.Items()), 0)
	same(t, "Pop", end(d.Pop()), told{0, api.ErrEmpty})
	same(t, "Steal", end(d.Steal()), told{0, api.ErrEmpty})
	sameList(t, "cells", c.Words(0, c.Len()), make([]int64, c.Len()))
}

// R3: the memory is the deque's own part: two of the same cells are one.
func TestMemoryIsShared(t *testing.T) {
	d, c := made(t, 2, 2, 1)
	e, errno := deque.New(c, 2, 2, 1)
	same(t, "New", errno, api.OK)
	same(t, "Push", end(d.Push(7)), told{7, api.OK})
	sameList(t, "Items of the other", e.Items(), []int64{7})
	same(t, "Steal of the other", end(e.Steal()), told{7, api.OK})
	same(t, "Items", len(d.Items()), 0)
	c.Put(2, 0, 2, 0, 1, 21, 22, 23)
	sameList(t, "Items as put", d.Items(), []int64{21, 22, 23})
}

// P6.1: deques side by side leave each other alone, and what is around them.
func TestSideBySide(t *testing.T) {
	c := cells.New(30)
	c.Put(0, -1, -2)
	c.Put(26, -3, -4, -5, -6)
	var l []*deque.Deque
	for i := range 3 {
		d, errno := deque.New(c, 2+i*8, 2, 2)
		same(t, "New", errno, api.OK)
		l = append(l, d)
	}
	for round := range 40 {
		for i, d := range l {
			if round%8 < 5 {
				end(d.Push(int64(100*round + i)))
			} else {
				end([]*deque.Op{d.Pop(), d.Steal()}[i%2])
			}
		}
	}
	same(t, "Push to the first", end(l[0].Push(5)), told{5, api.OK})
	sameList(t, "ahead", c.Words(0, 2), []int64{-1, -2})
	sameList(t, "behind", c.Words(26, 30), []int64{-3, -4, -5, -6})
	for i, d := range l {
		for _, v := range d.Items() {
			same(t, "whose", v == 5 && i == 0 || v%100 == int64(i), true)
		}
	}
}

// R1: a nil deque (and a zero one, which is none too) has nil operations, no
// items, and tells 0.
func TestNoDeque(t *testing.T) {
	other, _ := made(t, 0, 2, 1)
	for name, d := range none() {
		same(t, name+": Push", d.Push(4) == nil, true)
		same(t, name+": Pop", d.Pop() == nil, true)
		same(t, name+": Steal", d.Steal() == nil, true)
		same(t, name+": Items", len(d.Items()), 0)
		same(t, name+": Top", d.Top(), 0)
		same(t, name+": Bottom", d.Bottom(), 0)
		same(t, name+": Stack", d.Stack(), 0)
		same(t, name+": Run", d.Run(), 0)
		o := other.Push(3)
		same(t, name+": Run of another's", d.Run(nil, o, &deque.Op{}), 0)
		same(t, name+": that one's Done", o.Done(), false)
	}
}

// A nil operation, and a zero one: done, ErrArg.
func TestNoOp(t *testing.T) {
	for name, o := range map[string]*deque.Op{"nil": nil, "zero": {}} {
		for range 2 {
			same(t, name+": Done", o.Done(), true)
			same(t, name+": Value", value(o), told{0, api.ErrArg})
			same(t, name+": Step", o.Step(), true)
		}
	}
}

// The ways of the layer: the memory's methods are the deque's.
func TestMemoryIsEmbedded(t *testing.T) {
	d, c := made(t, 3, 2, 1)
	same(t, "Len", d.Len(), c.Len())
	same(t, "Store", d.Store(0, 8), api.OK)
	sameList(t, "Words", c.Words(0, 1), []int64{8})
}
