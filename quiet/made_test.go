package quiet_test

import (
	"fmt"
	"math"
	"slices"
	"testing"

	"ballast/api"
	"ballast/cells"
	"ballast/deque"
	"ballast/quiet"
)

func same[T comparable](t *testing.T, what string, got, want T) {
	t.Helper()
	if got != want {
		t.Errorf("%s: %v, want %v", what, got, want)
	}
}

func sameList[T comparable](t *testing.T, what string, got, want []T) {
	t.Helper()
	if !slices.Equal(got, want) {
		t.Errorf("%s: %v, want %v", what, got, want)
	}
}

// counted is a count of so many workers.
func counted(t *testing.T, c *cells.Cells, at, workers int) *quiet.Quiet {
	t.Helper()
	q, errno := quiet.New(c, at, workers)
	if q == nil || errno != api.OK {
		t.Fatalf("New(%d, %d): %v, %v", at, workers, q, errno)
	}
	return q
}

// laid are deques of two slots and a stack of one, side by side from a place
// on; each takes so many cells.
const apart = 7

func laid(t *testing.T, c *cells.Cells, base, n int) []*deque.Deque {
	t.Helper()
	var l []*deque.Deque
	for i := range n {
		d, errno := deque.New(c, base+i*apart, 2, 1)
		if errno != api.OK {
			t.Fatalf("deque %d at %d: %v", i, base, errno)
		}
		l = append(l, d)
	}
	return l
}

// goOn has the offer step till it is no more at Go: how it stands then, and
// how many steps that took.
func goOn(o *quiet.Offer) (state, steps int) {
	for steps < 10000 {
		steps++
		if state = o.Step(); state != api.Go {
			break
		}
	}
	return state, steps
}

func far() []int {
	return []int{math.MinInt, math.MinInt + 1, -1 << 40, -65537, -64, -1, 65536, 65537, 1 << 40, math.MaxInt - 1, math.MaxInt}
}

// P7.1: the cell must be there.
func TestNewOfPlaces(t *testing.T) {
	for _, x := range []struct {
		words, at int
		want      api.Errno
	}{
		{30, 0, api.OK}, {30, 17, api.OK}, {30, 29, api.OK}, {30, 30, api.ErrArg}, {30, 31, api.ErrArg}, {30, -1, api.ErrArg},
		{1, 0, api.OK}, {1, 1, api.ErrArg}, {1, -1, api.ErrArg}, {0, 0, api.ErrArg}, {0, -1, api.ErrArg},
		{api.MaxWords, api.MaxWords - 1, api.OK}, {api.MaxWords, api.MaxWords, api.ErrArg},
	} {
		q, errno := quiet.New(cells.New(x.words), x.at, 2)
		same(t, fmt.Sprint(x), errno, x.want)
		same(t, fmt.Sprint(x, " is made"), q != nil, x.want == api.OK)
	}
}

// P7.1: workers are from 1 to 64.
func TestNewOfWorkers(t *testing.T) {
	c := cells.New(5)
	for workers := -3; workers <= 70; workers++ {
		may := workers >= 1 && workers <= 64
		q, errno := quiet.New(c, 3, workers)
		same(t, fmt.Sprint(workers, " workers: is made"), q != nil, may)
		same(t, fmt.Sprint(workers, " workers"), errno, map[bool]api.Errno{true: api.OK, false: api.ErrArg}[may])
	}
}

// P7.1, P1: numbers that are far from all that may be; no memory.
func TestNewFar(t *testing.T) {
	memories := map[string]*cells.Cells{"nil": nil, "zero": {}, "none": cells.New(0), "some": cells.New(30), "most": cells.New(api.MaxWords)}
	for name, c := range memories {
		for _, n := range far() {
			for _, x := range [][2]int{{n, 1}, {n, 64}, {n, 0}, {0, n}, {29, n}, {n, n}} {
				q, errno := quiet.New(c, x[0], x[1])
				if q != nil || errno != api.ErrArg {
					t.Errorf("New(%s, %v): %v, %v", name, x, q, errno)
				}
			}
		}
	}
	for _, name := range []string{"nil", "zero", "none"} {
		q, errno := quiet.New(memories[name], 0, 1)
		same(t, name+": New", errno, api.ErrArg)
		same(t, name+": is none", q == nil, true)
	}
}

// P7.1: New writes nothing, and has no access; the cell's word is the count.
func TestNewWritesNothing(t *testing.T) {
	c := cells.New(4)
	words := []int64{90, 91, 7, 92}
	c.Put(0, words...)
	q := counted(t, c, 2, 9)
	sameList(t, "cells", c.Words(0, 4), words)
	same(t, "accesses", c.Steps(), 0)
	same(t, "Idle", q.Idle(), 7)
	quiet.New(c, 2, 0)
	quiet.New(c, 4, 1)
	sameList(t, "cells behind errors", c.Words(0, 4), words)
	same(t, "accesses behind errors", c.Steps(), 0)
}

// P7.1: an offer is made without an access, and stands at Go.
func TestOfferDoesNothingYet(t *testing.T) {
	c := cells.New(30)
	q := counted(t, c, 0, 2)
	l := laid(t, c, 1, 3)
	c.Put(1, 0, 1, 0, 1, 5, 6, 7)
	words := c.Words(0, 30)
	for n := range 4 {
		o := q.Offer(l[:n]...)
		same(t, "an offer", o != nil, true)
		same(t, "State", o.State(), api.Go)
		same(t, "Idle", q.Idle(), 0)
	}
	same(t, "accesses", c.Steps(), 0)
	sameList(t, "cells", c.Words(0, 30), words)
}

// P7.1: Idle is the count's word, whatever it is, without an access.
func TestIdle(t *testing.T) {
	c := cells.New(3)
	q := counted(t, c, 1, 2)
	for _, w := range []int64{0, 1, 2, 3, 64, 65, -1, math.MinInt64, math.MaxInt64, 1 << 40} {
		c.Put(0, 77, w, 78)
		same(t, "Idle", q.Idle(), int(w))
	}
	same(t, "accesses", c.Steps(), 0)
	sameList(t, "cells", c.Words(0, 3), []int64{77, 1 << 40, 78})
}

// R3: the memory is the count's own part: two of one cell are one count.
func TestMemoryIsShared(t *testing.T) {
	c := cells.New(3)
	q, r := counted(t, c, 1, 2), counted(t, c, 1, 2)
	o, p := q.Offer(), r.Offer()
	same(t, "the first one", o.Step(), api.Go)
	same(t, "Idle of the other", r.Idle(), 1)
	same(t, "the other one", p.Step(), api.Go)
	same(t, "Idle", q.Idle(), 2)
	same(t, "the first one", o.Step(), api.End)
	same(t, "the other one", p.Step(), api.End)
}

// P7.1: counts side by side leave each other alone, and what is around them.
func TestSideBySide(t *testing.T) {
	c := cells.New(4)
	c.Put(0, -7, 0, 0, -8)
	q, r := counted(t, c, 1, 2), counted(t, c, 2, 1)
	q.Offer().Step()
	same(t, "Idle of the other", r.Idle(), 0)
	state, steps := goOn(r.Offer())
	same(t, "the other one", state, api.End)
	same(t, "its steps", steps, 2)
	sameList(t, "cells", c.Words(0, 4), []int64{-7, 1, 1, -8})
}

// R3: the list of deques is its owner's, who may change it behind the call;
// the deques themselves are shared.
func TestListIsKeptAlone(t *testing.T) {
	c := cells.New(40)
	q := counted(t, c, 0, 2)
	l := laid(t, c, 1, 3)
	handed := []*deque.Deque{l[0], l[1]}
	o := q.Offer(handed...)
	handed[0], handed[1] = nil, l[2]
	l[2].Run(l[2].Push(8))
	for range 2 + 2*7 {
		same(t, "neither of its deques has an item", o.Step(), api.Go)
	}
	sameList(t, "the list", handed, []*deque.Deque{nil, l[2]})
	l[1].Run(l[1].Push(9))
	state, _ := goOn(o)
	same(t, "one of them has", state, api.Wait)
}

// A nil count, and a zero one, which is none too: nil offers, Idle 0.
func TestNoCount(t *testing.T) {
	c := cells.New(20)
	l := laid(t, c, 1, 1)
	for name, q := range map[string]*quiet.Quiet{"nil": nil, "zero": {}} {
		same(t, name+": Idle", q.Idle(), 0)
		for _, o := range []*quiet.Offer{q.Offer(), q.Offer(l...), q.Offer(nil), q.Offer(nil, l[0], nil)} {
			same(t, name+": offer", o == nil, true)
			same(t, name+": Step", o.Step(), api.End)
			same(t, name+": State", o.State(), api.End)
		}
		same(t, name+": Idle behind them", q.Idle(), 0)
	}
	same(t, "accesses", c.Steps(), 0)
}

// A nil offer, and a zero one: End.
func TestNoOffer(t *testing.T) {
	for name, o := range map[string]*quiet.Offer{"nil": nil, "zero": {}} {
		for range 3 {
			same(t, name+": State", o.State(), api.End)
			same(t, name+": Step", o.Step(), api.End)
		}
	}
}
