package sums_test

import (
	"fmt"
	"math"
	"slices"
	"testing"

	"ballast/api"
	"ballast/cells"
	"ballast/sums"
)

// crew are sums that are to be, with all that they were made of.
type crew struct {
	t       *testing.T
	what    string
	control *cells.Cells
	*sums.Sums
	values         []int64
	workers, block int
}

// beside is what stands in control's other cells: it is nobody's here.
func beside() []int64 { return []int64{-5, 7} }

// made has a control that comes with words in all of its cells.
func made(t *testing.T, values []int64, workers, block int) *crew {
	t.Helper()
	c := &crew{t: t, what: fmt.Sprint(len(values), " values, ", workers, " workers, block ", block), values: slices.Clone(values), workers: workers, block: block}
	c.control = cells.New(3)
	c.control.Put(0, 77)
	c.control.Put(1, beside()...)
	var errno api.Errno
	c.Sums, errno = sums.New(c.control, values, workers, block)
	if c.Sums == nil || errno != api.OK {
		t.Fatalf("%s: New: %v, %v", c.what, c.Sums, errno)
	}
	return c
}

// blocks is how many there are.
func (c *crew) blocks() int {
	n := 0
	for at := 0; at < len(c.values); n++ {
		if c.block > len(c.values)-at {
			return n + 1
		}
		at += c.block
	}
	return n
}

// most is how many steps by turns P12.5 allows each worker.
func (c *crew) most() int { return 2*len(c.values) + 3*c.blocks() + 6 }

// Step holds P12.3 at each step: one access at most, and Go or End is told.
func (c *crew) Step(worker int) int {
	c.t.Helper()
	accesses := c.control.Steps()
	told := c.Sums.Step(worker)
	if accesses = c.control.Steps() - accesses; accesses < 0 || accesses > 1 {
		c.t.Fatalf("%s: a step of worker %d had %d accesses", c.what, worker, accesses)
	}
	if told != api.Go && told != api.End {
		c.t.Fatalf("%s: a step of worker %d told %d", c.what, worker, told)
	}
	return told
}

// steps has one worker do so many steps.
func (c *crew) steps(worker, n int) {
	c.t.Helper()
	for range n {
		c.Step(worker)
	}
}

// end goes by turns till all have ended.
func (c *crew) end() {
	c.t.Helper()
	most := c.workers * c.most()
	for n := 0; !c.Done(); n++ {
		if n >= most {
			c.t.Fatalf("%s: not all have ended within %d steps by turns", c.what, n)
		}
		c.Step(n % c.workers)
	}
}

// right holds the result against Plain's.
func (c *crew) right() {
	c.t.Helper()
	wantAhead, wantSum := sums.Plain(c.values...)
	ahead, sum, errno := c.Result()
	same(c.t, c.what+": Result", errno, api.OK)
	sameList(c.t, c.what+": ahead", ahead, wantAhead)
	same(c.t, c.what+": the sum", sum, wantSum)
	sameList(c.t, c.what+": control's other cells", c.control.Words(1, 3), beside())
}

// count is so many values, each of them different.
func count(n int) []int64 {
	values := make([]int64, n)
	for i := range values {
		values[i] = int64(i*i - 7*i + 1)
	}
	return values
}

// far are numbers at the ends of an int, and beyond all that may be.
func far() []int {
	return []int{math.MinInt, math.MinInt + 1, math.MinInt + 64, -1 << 40, -1 << 32, -65537, -65, -64, -1, 65, 128, 65536, 65537, 1 << 32, 1<<32 + 1, 1 << 40, 1 << 62, math.MaxInt - 1, math.MaxInt}
}

// P12.2: what New does not take, and what is just enough.
func TestNewOfArguments(t *testing.T) {
	for _, x := range []struct {
		name           string
		control        *cells.Cells
		values         int
		workers, block int
		want           api.Errno
	}{
		{"all is well", cells.New(1), 3, 2, 2, api.OK},
		{"more cells than one", cells.New(50), 3, 2, 2, api.OK},
		{"no control", nil, 3, 2, 2, api.ErrArg},
		{"control of no cell", cells.New(0), 3, 2, 2, api.ErrArg},
		{"a zero control", &cells.Cells{}, 3, 2, 2, api.ErrArg},
		{"no cell, no value", cells.New(0), 0, 1, 1, api.ErrArg},
		{"0 workers", cells.New(1), 3, 0, 2, api.ErrArg},
		{"-1 workers", cells.New(1), 3, -1, 2, api.ErrArg},
		{"1 worker", cells.New(1), 3, 1, 2, api.OK},
		{"64 workers", cells.New(1), 3, 64, 2, api.OK},
		{"65 workers", cells.New(1), 3, 65, 2, api.ErrArg},
		{"65 workers, no value", cells.New(1), 0, 65, 2, api.ErrArg},
		{"a block of -1", cells.New(1), 3, 2, -1, api.ErrArg},
		{"a block of 0", cells.New(1), 3, 2, 0, api.ErrArg},
		{"a block of 0, no value", cells.New(1), 0, 2, 0, api.ErrArg},
		{"a block of 1", cells.New(1), 3, 2, 1, api.OK},
		{"a block of all", cells.New(1), 3, 2, 3, api.OK},
		{"a block of more", cells.New(1), 3, 2, 4, api.OK},
		{"no value", cells.New(1), 0, 2, 2, api.OK},
		{"65535 values", cells.New(1), 65535, 2, 2, api.OK},
		{"65536 values", cells.New(1), 65536, 2, 2, api.OK},
		{"65536 values, a block each", cells.New(1), 65536, 64, 1, api.OK},
		{"65537 values", cells.New(1), 65537, 2, 2, api.ErrArg},
		{"65537 values, a block of all", cells.New(1), 65537, 2, 65537, api.ErrArg},
		{"all is wrong", nil, 65537, 0, 0, api.ErrArg},
	} {
		s, errno := sums.New(x.control, count(x.values), x.workers, x.block)
		same(t, x.name, errno, x.want)
		same(t, x.name+": is made", s != nil, x.want == api.OK)
	}
}

// P12.2: workers are from 1 to 64.
func TestNewOfWorkers(t *testing.T) {
	for workers := -5; workers <= 70; workers++ {
		s, errno := sums.New(cells.New(1), count(5), workers, 2)
		want := api.OK
		if workers < 1 || workers > 64 {
			want = api.ErrArg
		}
		same(t, fmt.Sprint(workers, " workers"), errno, want)
		same(t, fmt.Sprint(workers, " workers: is made"), s != nil, want == api.OK)
	}
}

// P12.2, P1: numbers far from all that may be. A block may be of any number
// from 1 on.
func TestNewFar(t *testing.T) {
	for _, n := range far() {
		s, errno := sums.New(cells.New(1), count(5), n, 2)
		if s != nil || errno != api.ErrArg {
			t.Errorf("%d workers: %v, %v", n, s, errno)
		}
		s, errno = sums.New(cells.New(1), count(5), n, n)
		if s != nil || errno != api.ErrArg {
			t.Errorf("%d workers, block %d: %v, %v", n, n, s, errno)
		}
		if n >= 1 {
			for _, values := range []int{0, 1, 5} {
				c := made(t, count(values), 3, n)
				c.end()
				c.right()
			}
			continue
		}
		s, errno = sums.New(cells.New(1), count(5), 3, n)
		if s != nil || errno != api.ErrArg {
			t.Errorf("block %d: %v, %v", n, s, errno)
		}
	}
}

// P12.2, R2: with an error control is as it was.
func TestNewWithAnError(t *testing.T) {
	for _, x := range []struct{ values, workers, block int }{{3, 0, 1}, {3, 65, 1}, {3, 1, 0}, {3, 1, -1}, {65537, 1, 1}} {
		control := cells.New(2)
		control.Put(0, 5, 6)
		_, errno := sums.New(control, count(x.values), x.workers, x.block)
		same(t, fmt.Sprint("New ", x), errno, api.ErrArg)
		sameList(t, fmt.Sprint("New ", x, ": control"), control.Words(0, 2), []int64{5, 6})
		same(t, fmt.Sprint("New ", x, ": accesses"), control.Steps(), 0)
	}
}

// P12.2: control's cell 0 may have had any word; New is no access, and no
// other cell is anything to it.
func TestNewOfAnyControl(t *testing.T) {
	for _, word := range []int64{0, 1, 2, 3, 4, -1, 1 << 40, math.MaxInt64, math.MinInt64} {
		control := cells.New(4)
		control.Put(0, word, 8, word, 9)
		s, errno := sums.New(control, []int64{3, 1, 4}, 2, 1)
		same(t, "New", errno, api.OK)
		same(t, "accesses", control.Steps(), 0)
		c := &crew{t: t, what: fmt.Sprint("control of ", word), control: control, Sums: s, values: []int64{3, 1, 4}, workers: 2, block: 1}
		c.end()
		ahead, sum, errno := c.Result()
		sameList(t, c.what, ahead, []int64{0, 3, 4})
		same(t, c.what, sum, 8)
		same(t, c.what, errno, api.OK)
		sameList(t, c.what, control.Words(1, 4), []int64{8, word, 9})
	}
}

// P12.2, R3: the values are its own: whatever the caller does to them, and
// whenever.
func TestValuesAreItsOwn(t *testing.T) {
	for late := range 60 {
		values := count(9)
		c := made(t, values, 2, 2)
		for n := range late {
			c.Step(n % 2)
		}
		for i := range values {
			values[i] = -1000
		}
		c.end()
		c.right()
	}
	values := count(9)
	c := made(t, values[:5:9], 2, 2)
	c.end()
	c.right()
	sameList(t, "the caller's values", values, count(9))
}

// P12.2: sums are nothing to each other.
func TestSumsApart(t *testing.T) {
	c, d := made(t, count(9), 2, 2), made(t, count(5), 3, 1)
	for n := range 200 {
		c.Step(n % 2)
		d.Step(n % 3)
	}
	same(t, "both are done", c.Done() && d.Done(), true)
	c.right()
	d.right()
}
