package quiet_test

import (
	"fmt"
	"math"
	"slices"
	"testing"

	"ballast/api"
	"ballast/cells"
	"ballast/deque"
	"ballast/quiet"
)

// The cells of this file: the count, some around it, and three deques.
const (
	count = 2
	first = 4
	whole = first + 3*apart + 2
)

// top, bottom and stack are the cells of the deque i.
func top(i int) int    { return first + i*apart }
func bottom(i int) int { return first + i*apart + 1 }
func stack(i int) int  { return first + i*apart + 3 }

// event is a step of the offer: one access of a cell, and the word that is
// there behind it. Or it is what somebody else does.
type event struct {
	at     int
	writes bool
	word   int64
	other  bool
}

func reads(at int) event              { return event{at: at} }
func writes(at int, word int64) event { return event{at: at, writes: true, word: word} }
func other(at int, word int64) event  { return event{at: at, word: word, other: true} }

// nothing are the steps that look into these deques and find nothing.
func nothing(deques ...int) []event {
	var l []event
	for _, i := range deques {
		l = append(l, reads(top(i)), reads(bottom(i)), reads(stack(i)))
	}
	return l
}

// steps puts events, and lists of them, one behind the other.
func steps(l ...any) []event {
	var all []event
	for _, x := range l {
		switch x := x.(type) {
		case event:
			all = append(all, x)
		case []event:
			all = append(all, x...)
		}
	}
	return all
}

// way is one way of an offer through its steps.
type way struct {
	name    string
	workers int
	words   map[int]int64 // what lies in the cells beside zeros
	deques  []int         // those that are looked into
	steps   []event
	want    int
}

func endings() []way {
	in, look := writes(count, 1), reads(count)
	return []way{
		{"one worker, no deques", 1, nil, nil, steps(in, look), api.End},
		{"one worker: the deques are not looked into", 1, map[int]int64{bottom(0): 1, stack(1): 1}, []int{0, 1}, steps(in, look), api.End},
		{"the last one of two", 2, map[int]int64{count: 1}, []int{0, 1}, steps(writes(count, 2), look), api.End},
		{"the last one of 64", 64, map[int]int64{count: 63}, []int{0}, steps(writes(count, 64), look), api.End},
		{"no deques, again and again", 2, nil, nil, steps(in, look, look, look, look, other(count, 2), look), api.End},
		{"one deque", 2, nil, []int{0},
			steps(in, look, nothing(0), look, nothing(0), look, nothing(0), other(count, 2), look), api.End},
		{"several deques", 2, nil, []int{0, 1, 2},
			steps(in, look, nothing(0, 1, 2), look, nothing(0, 1, 2), other(count, 2), look), api.End},
		{"in the order in which they were handed in", 2, nil, []int{2, 0, 1},
			steps(in, look, nothing(2, 0, 1), look, nothing(2, 0, 1), other(count, 2), look), api.End},
		{"one deque twice", 2, nil, []int{1, 1}, steps(in, look, nothing(1, 1), other(count, 2), look), api.End},
		{"others that come and go between the looks", 3, nil, []int{0},
			steps(in, look, other(count, 3), nothing(0), other(count, 2), look, other(count, 3), reads(top(0)), reads(bottom(0)), other(count, 2), reads(stack(0)), look, nothing(0), other(count, 3), look), api.End},
		{"the others are there ahead of the first look", 2, nil, []int{0}, steps(in, other(count, 2), look), api.End},
		{"tops as high as bottoms", 2, map[int]int64{top(0): 9, bottom(0): 9, top(1): 1, bottom(1): 1}, []int{0, 1},
			steps(in, look, nothing(0, 1), look, nothing(0, 1), other(count, 2), look), api.End},
		{"more than there are workers", 2, map[int]int64{count: 2}, nil, steps(writes(count, 3), look, look, other(count, 2), look), api.End},
		{"far more, or less than none", 2, map[int]int64{count: math.MaxInt64}, nil,
			steps(writes(count, math.MinInt64), look, other(count, -2), look, other(count, 2+1<<32), look, other(count, 0), look, other(count, 1), look, other(count, 3), look, other(count, 2), look), api.End},
	}
}

func goings() []way {
	in, look, out := writes(count, 1), reads(count), writes(count, 0)
	return []way{
		{"an item in the only deque", 2, map[int]int64{bottom(0): 1}, []int{0}, steps(in, look, reads(top(0)), reads(bottom(0)), out), api.Wait},
		{"an item in the first of several", 2, map[int]int64{top(0): 4, bottom(0): 5}, []int{0, 1, 2},
			steps(in, look, reads(top(0)), reads(bottom(0)), out), api.Wait},
		{"items in all of them, and stacks", 2, map[int]int64{bottom(0): 2, bottom(1): 2, bottom(2): 1, stack(0): 1}, []int{0, 1, 2},
			steps(in, look, reads(top(0)), reads(bottom(0)), out), api.Wait},
		{"an item in a later one", 2, map[int]int64{top(1): 7, bottom(1): 9}, []int{0, 1, 2},
			steps(in, look, nothing(0), reads(top(1)), reads(bottom(1)), out), api.Wait},
		{"an item in the last one", 2, map[int]int64{bottom(2): 1}, []int{0, 1, 2},
			steps(in, look, nothing(0, 1), reads(top(2)), reads(bottom(2)), out), api.Wait},
		{"an item in a stack alone", 2, map[int]int64{stack(0): 1}, []int{0},
			steps(in, look, nothing(0), out), api.Wait},
		{"an item in the stack of the first of several", 2, map[int]int64{stack(0): 2, bottom(1): 1}, []int{0, 1},
			steps(in, look, nothing(0), out), api.Wait},
		{"an item in a later one's stack", 2, map[int]int64{stack(1): 1, top(1): 3, bottom(1): 3}, []int{0, 1, 2},
			steps(in, look, nothing(0, 1), out), api.Wait},
		{"an item in the last one's stack", 2, map[int]int64{stack(2): 1}, []int{0, 1, 2},
			steps(in, look, nothing(0, 1, 2), out), api.Wait},
		{"an item in a stack whose lock is held", 2, map[int]int64{stack(0): 1, first + 2: 1}, []int{0},
			steps(in, look, nothing(0), out), api.Wait},
		{"a deque that is not looked into", 2, map[int]int64{bottom(0): 1, bottom(1): 1}, []int{2, 1},
			steps(in, look, nothing(2), reads(top(1)), reads(bottom(1)), out), api.Wait},
		{"a bottom below the top, while its owner pops: the stack", 2, map[int]int64{top(0): 3, bottom(0): 2, stack(0): 1}, []int{0},
			steps(in, look, nothing(0), out), api.Wait},
		{"less than none in a stack, and a far bottom behind it", 2, map[int]int64{stack(0): -1, stack(1): math.MinInt64, top(2): math.MinInt64, bottom(2): math.MaxInt64}, []int{0, 1, 2},
			steps(in, look, nothing(0, 1), reads(top(2)), reads(bottom(2)), out), api.Wait},
		{"a top far above the bottom", 2, map[int]int64{top(0): math.MaxInt64, bottom(0): math.MinInt64, top(1): -5, bottom(1): -4}, []int{0, 1},
			steps(in, look, nothing(0), reads(top(1)), reads(bottom(1)), out), api.Wait},
		{"below 0", 2, map[int]int64{top(0): -1, bottom(0): 0}, []int{0}, steps(in, look, reads(top(0)), reads(bottom(0)), out), api.Wait},
	}
}

func changes() []way {
	in, look, out := writes(count, 1), reads(count), writes(count, 0)
	return []way{
		{"an item that comes behind the top's reading", 2, nil, []int{0},
			steps(in, look, reads(top(0)), other(bottom(0), 1), reads(bottom(0)), out), api.Wait},
		{"an item that comes behind the bottom's reading", 2, nil, []int{0},
			steps(in, look, reads(top(0)), reads(bottom(0)), other(bottom(0), 1), reads(stack(0)), look, reads(top(0)), reads(bottom(0)), out), api.Wait},
		{"an item that comes to the stack in time", 2, nil, []int{0},
			steps(in, look, reads(top(0)), reads(bottom(0)), other(stack(0), 1), reads(stack(0)), out), api.Wait},
		{"an item that comes to the stack too late", 2, nil, []int{0, 1},
			steps(in, look, nothing(0), other(stack(0), 1), nothing(1), look, nothing(0), out), api.Wait},
		{"an item that comes after some rounds", 3, nil, []int{0, 1},
			steps(in, look, nothing(0, 1), look, nothing(0, 1), other(count, 2), look, nothing(0, 1), other(bottom(1), 1), look, nothing(0), reads(top(1)), reads(bottom(1)), writes(count, 1)), api.Wait},
		{"an item that comes after some rounds, to the first one", 2, nil, []int{0, 1},
			steps(in, look, nothing(0, 1), look, nothing(0), other(bottom(0), 1), nothing(1), look, reads(top(0)), reads(bottom(0)), out), api.Wait},
		{"an item that is stolen behind the top's reading", 2, map[int]int64{bottom(0): 1}, []int{0},
			steps(in, look, reads(top(0)), other(top(0), 1), reads(bottom(0)), out), api.Wait},
		{"an item that is popped behind the top's reading", 2, map[int]int64{bottom(0): 1}, []int{0},
			steps(in, look, reads(top(0)), other(bottom(0), 0), reads(bottom(0)), reads(stack(0)), other(count, 2), look), api.End},
		{"an item that is taken ahead of the last step", 2, map[int]int64{bottom(0): 1}, []int{0},
			steps(in, look, reads(top(0)), reads(bottom(0)), other(top(0), 1), out), api.Wait},
		{"an item of the stack that is taken ahead of the last step", 2, map[int]int64{stack(0): 1}, []int{0},
			steps(in, look, nothing(0), other(stack(0), 0), out), api.Wait},
		{"all others offer ahead of the last step", 3, map[int]int64{bottom(0): 1}, []int{0},
			steps(in, look, reads(top(0)), reads(bottom(0)), other(count, 3), writes(count, 2)), api.Wait},
		{"all others offer ahead of an item's being seen", 3, map[int]int64{stack(1): 1}, []int{0, 1},
			steps(in, look, nothing(0), other(count, 3), nothing(1), writes(count, 2)), api.Wait},
		{"the count is less than it may be ahead of the last step", 2, map[int]int64{bottom(0): 1}, []int{0},
			steps(in, look, reads(top(0)), reads(bottom(0)), other(count, math.MinInt64), writes(count, math.MaxInt64)), api.Wait},
	}
}

func ways() []way { return slices.Concat(endings(), goings(), changes()) }

// begin is the offer of a way, and its count and cells.
func (w way) begin(t *testing.T) (*quiet.Offer, *quiet.Quiet, *cells.Cells) {
	t.Helper()
	c := cells.New(whole)
	c.Put(0, 50, 51)
	c.Put(count+1, 52)
	c.Put(whole-2, 53, 54)
	for at, word := range w.words {
		c.Put(at, word)
	}
	q := counted(t, c, count, w.workers)
	l := laid(t, c, first, 3)
	var deques []*deque.Deque
	for _, i := range w.deques {
		deques = append(deques, l[i])
	}
	return q.Offer(deques...), q, c
}

// wants is what the step at i tells: all but the last one Go.
func (w way) wants(i int) int {
	if i == len(w.steps)-1 {
		return w.want
	}
	return api.Go
}

// veils are words that the cells have while they are hidden: of each step
// some of them would lead it astray if it read there.
func veils(workers int) map[string]func(at int) int64 {
	return map[string]func(at int) int64{
		"workers": func(int) int64 { return int64(workers) },
		"one off": func(int) int64 { return int64(workers) + 1 },
		"rising":  func(at int) int64 { return 1000 + int64(at)*7 },
		"falling": func(at int) int64 { return -1000 - int64(at)*7 },
	}
}

// hide has every cell but one be a veil's word; it is what they were.
func hide(c *cells.Cells, but int, veil func(at int) int64) []int64 {
	words := c.Words(0, c.Len())
	for at := range words {
		if at != but {
			c.Put(at, veil(at))
		}
	}
	return words
}

// P7.2: each step is one access, of the cell that the promise names, and
// tells State.
func TestStepByStep(t *testing.T) {
	for _, w := range ways() {
		for name, veil := range veils(w.workers) {
			o, _, c := w.begin(t)
			for i, e := range w.steps {
				if e.other {
					c.Put(e.at, e.word)
					continue
				}
				what := fmt.Sprintf("%s, behind %s, step %d", w.name, name, i)
				words, accesses := hide(c, e.at, veil), c.Steps()
				hidden := c.Words(0, whole)
				same(t, what, o.Step(), w.wants(i))
				same(t, what+": accesses", c.Steps()-accesses, 1)
				if e.writes {
					hidden[e.at], words[e.at] = e.word, e.word
				}
				sameList(t, what+": cells", c.Words(0, whole), hidden)
				c.Put(0, words...)
			}
			same(t, w.name+": State", o.State(), w.want)
		}
	}
}

// P7.1, P7.2: State and Idle ahead of and behind each step, without an
// access.
func TestStateAndIdleBetweenSteps(t *testing.T) {
	for _, w := range ways() {
		o, q, c := w.begin(t)
		idle := c.Words(count, count+1)[0]
		same(t, w.name+": State ahead of all", o.State(), api.Go)
		same(t, w.name+": Idle ahead of all", q.Idle(), int(idle))
		accesses := 0
		for i, e := range w.steps {
			if e.other {
				c.Put(e.at, e.word)
			} else {
				accesses++
				same(t, fmt.Sprintf("%s, step %d", w.name, i), o.Step(), w.wants(i))
				same(t, fmt.Sprintf("%s, State behind step %d", w.name, i), o.State(), w.wants(i))
			}
			if e.at == count && (e.other || e.writes) {
				idle = e.word
			}
			same(t, fmt.Sprintf("%s, Idle behind step %d", w.name, i), q.Idle(), int(idle))
		}
		same(t, w.name+": accesses", c.Steps(), accesses)
	}
}

// P7.2: once it is at Wait or at End a Step does nothing, whatever comes.
func TestStepBehindTheLast(t *testing.T) {
	for _, w := range ways() {
		o, q, c := w.begin(t)
		for _, e := range w.steps {
			if e.other {
				c.Put(e.at, e.word)
			} else {
				o.Step()
			}
		}
		accesses := c.Steps()
		for _, word := range []int64{-1, 0, 1, 2, 3} {
			for at := range whole {
				c.Put(at, word)
			}
			words := c.Words(0, whole)
			for range 10 {
				same(t, w.name+": Step", o.Step(), w.want)
				same(t, w.name+": State", o.State(), w.want)
			}
			sameList(t, w.name+": cells", c.Words(0, whole), words)
			same(t, w.name+": Idle", q.Idle(), int(word))
		}
		same(t, w.name+": accesses", c.Steps(), accesses)
	}
}

// P7.2: an offer that finds nothing goes round without an end, and writes
// nothing but its first step.
func TestRoundAndRound(t *testing.T) {
	for n := range 4 {
		c := cells.New(whole)
		q := counted(t, c, count, 64)
		o := q.Offer(laid(t, c, first, n)...)
		for i := range 5000 {
			same(t, fmt.Sprint(n, " deques"), o.Step(), api.Go)
			same(t, fmt.Sprint(n, " deques: accesses"), c.Steps(), i+1)
			same(t, fmt.Sprint(n, " deques: Idle"), q.Idle(), 1)
		}
		c.Put(count, 64)
		state, more := goOn(o)
		same(t, fmt.Sprint(n, " deques: in the end"), state, api.End)
		same(t, fmt.Sprint(n, " deques: within a round"), more <= 1+3*n, true)
	}
}

// P7.2, the chapter's examples: two workers, two deques.
func TestExamples(t *testing.T) {
	c := cells.New(20)
	q := counted(t, c, 0, 2)
	l := laid(t, c, 1, 2)
	o, p := q.Offer(l...), q.Offer(l...)
	sameList(t, "the first one", []int{o.Step(), o.Step(), o.Step()}, []int{api.Go, api.Go, api.Go})
	sameList(t, "the second one", []int{p.Step(), p.Step()}, []int{api.Go, api.End})
	state, more := goOn(o)
	same(t, "the first one goes on", state, api.End)
	same(t, "till its next look at the count", more, 6)
	c.Put(0, 0)
	l[1].Run(l[1].Push(5))
	o = q.Offer(l...)
	state, more = goOn(o)
	same(t, "an item in the second deque", state, api.Wait)
	same(t, "its steps", more, 8)
	same(t, "Idle", q.Idle(), 0)
	sameList(t, "the item lies there", l[1].Items(), []int64{5})
}

// P7.2: of a deque that is none all words are 0, and no access is made.
func TestDequesThatAreNone(t *testing.T) {
	c := cells.New(whole)
	q := counted(t, c, count, 2)
	l := laid(t, c, first, 1)
	o := q.Offer(nil, l[0], &deque.Deque{})
	for i, accesses := range []int{1, 1, 0, 0, 0, 1, 1, 1, 0, 0, 0, 1} {
		ahead := c.Steps()
		same(t, fmt.Sprint("step ", i), o.Step(), api.Go)
		same(t, fmt.Sprint("step ", i, ": accesses"), c.Steps()-ahead, accesses)
	}
	l[0].Run(l[0].Push(3))
	state, _ := goOn(o)
	same(t, "behind one that is none", state, api.Wait)
	c.Put(count, 1)
	state, _ = goOn(q.Offer(nil, nil))
	same(t, "the last one", state, api.End)
}

// R5: a list of deques may be long.
func TestManyDeques(t *testing.T) {
	const n = 9000
	c := cells.New(1 + n*apart)
	q := counted(t, c, 0, 2)
	l := laid(t, c, 1, n)
	o := q.Offer(l...)
	for range 2 + 3*n + 1 {
		same(t, "nothing in any", o.Step(), api.Go)
	}
	same(t, "accesses", c.Steps(), 2+3*n+1)
	l[n-1].Run(l[n-1].Push(1))
	for range 3*n - 1 {
		o.Step()
	}
	same(t, "an item in the last one", o.State(), api.Go)
	same(t, "an item in the last one", o.Step(), api.Wait)
}

// P7.2: deques may lie in other memories than the count, and in one each.
func TestOtherMemories(t *testing.T) {
	c, e, f := cells.New(1), cells.New(apart), cells.New(apart)
	q := counted(t, c, 0, 2)
	o := q.Offer(laid(t, e, 0, 1)[0], laid(t, f, 0, 1)[0])
	for i, x := range [][3]int{{1, 0, 0}, {2, 0, 0}, {2, 1, 0}, {2, 2, 0}, {2, 3, 0}, {2, 3, 1}, {2, 3, 2}, {2, 3, 3}, {3, 3, 3}} {
		same(t, fmt.Sprint("step ", i), o.Step(), api.Go)
		same(t, fmt.Sprint("accesses behind step ", i), [3]int{c.Steps(), e.Steps(), f.Steps()}, x)
	}
	f.Put(3, 1)
	state, _ := goOn(o)
	same(t, "an item in the second one's stack", state, api.Wait)
}

// R3: an offer that is copied goes on by itself: its steps are the count's.
func TestCopiedOffer(t *testing.T) {
	c := cells.New(whole)
	q := counted(t, c, count, 2)
	l := laid(t, c, first, 2)
	o := q.Offer(l...)
	o.Step()
	o.Step()
	copied := *o
	l[0].Run(l[0].Push(4))
	state, more := goOn(&copied)
	same(t, "the copy", state, api.Wait)
	same(t, "its steps", more, 3)
	same(t, "the first one", o.State(), api.Go)
	l[0].Run(l[0].Pop())
	c.Put(count, 2)
	state, more = goOn(o)
	same(t, "the first one", state, api.End)
	same(t, "its steps", more, 7)
}
