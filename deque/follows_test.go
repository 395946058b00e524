package deque_test

import (
	"fmt"
	"iter"
	"math/rand"
	"slices"
	"sync"
	"testing"

	"ballast/api"
	"ballast/cells"
	"ballast/deque"
)

// every does a play once for each order in which n parts may be picked so
// many times.
func every(n, picks int, play func(order []int)) {
	order := make([]int, picks)
	for {
		play(order)
		at := picks - 1
		for ; at >= 0 && order[at] == n-1; at-- {
			order[at] = 0
		}
		if at < 0 {
			return
		}
		order[at]++
	}
}

// P6.2, P6.4: a Pop and a Steal at the one item left, in every order of
// their steps: just one of them has it.
func TestLastItemInEveryOrder(t *testing.T) {
	won := map[string]int{}
	every(2, 14, func(order []int) {
		d, c := made(t, 1, 2, 1)
		c.Put(1, 4, 5, 0, 0, 31, 32)
		ops := []*deque.Op{d.Pop(), d.Steal()}
		for _, i := range order {
			ops[i].Step()
		}
		d.Run(ops...)
		p, s := value(ops[0]), value(ops[1])
		won[fmt.Sprint(p, s)]++
		same(t, fmt.Sprint(order, ": Items"), len(d.Items()), 0)
		same(t, fmt.Sprint(order, ": Top"), d.Top(), 5)
		same(t, fmt.Sprint(order, ": Bottom"), d.Bottom(), 5)
	})
	want := []told{{31, api.OK}, {0, api.ErrEmpty}, {0, api.ErrState}}
	for _, x := range []string{fmt.Sprint(want[0], want[1]), fmt.Sprint(want[0], want[2]), fmt.Sprint(want[1], want[0])} {
		same(t, x+" happens", won[x] > 0, true)
		delete(won, x)
	}
	same(t, fmt.Sprint("nothing else happens: ", won), len(won), 0)
}

// P6.4: two Steals of one item, in every order: just one of them has it.
func TestTwoThievesInEveryOrder(t *testing.T) {
	won := map[string]int{}
	every(2, 10, func(order []int) {
		d, c := made(t, 1, 2, 1)
		c.Put(1, 4, 5, 0, 0, 31, 32)
		ops := []*deque.Op{d.Steal(), d.Steal()}
		for _, i := range order {
			ops[i].Step()
		}
		d.Run(ops...)
		won[fmt.Sprint(value(ops[0]), value(ops[1]))]++
		same(t, fmt.Sprint(order, ": Top"), d.Top(), 5)
	})
	want := []told{{31, api.OK}, {0, api.ErrEmpty}, {0, api.ErrState}}
	for _, x := range []string{fmt.Sprint(want[0], want[1]), fmt.Sprint(want[0], want[2]), fmt.Sprint(want[1], want[0]), fmt.Sprint(want[2], want[0])} {
		same(t, x+" happens", won[x] > 0, true)
		delete(won, x)
	}
	same(t, fmt.Sprint("nothing else happens: ", won), len(won), 0)
}

// P6.4: two that take and one that pushes, at the stack's lock, in every
// order of their first steps.
func TestStackInEveryOrder(t *testing.T) {
	every(3, 9, func(order []int) {
		d, c := made(t, 0, 1, 2)
		c.Put(0, 0, 1, 0, 1, 31, 41, 0)
		p, s, q := d.Push(51), d.Steal(), d.Steal()
		ops := []*deque.Op{p, s, q}
		for _, i := range order {
			ops[i].Step()
		}
		d.Run(ops...)
		l := d.Items()
		for _, o := range ops[1:] {
			if v, errno := o.Value(); errno == api.OK {
				l = append(l, v)
			}
		}
		slices.Sort(l)
		same(t, fmt.Sprint(order, ": Push"), value(p), told{51, api.OK})
		sameList(t, fmt.Sprint(order, ": told or there"), l, []int64{31, 41, 51})
	})
}

// party is one who does operations one behind the other, a step at a time.
type party struct {
	op    *deque.Op
	push  bool
	slots bool // it saw no item in the slots, at some time of its own
	stack bool // it saw none in the stack
}

// game is an owner and thieves at one deque, and an account of all items.
type game struct {
	t       *testing.T
	d       *deque.Deque
	c       *cells.Cells
	r       *rand.Rand
	parties []party // the first one is the owner
	item    int64
	pushed  []int64
	told    []int64
}

// begin has the party begin its next operation.
func (g *game) begin(i int) {
	p := party{}
	switch {
	case i > 0:
		p.op = g.d.Steal()
	case g.r.Intn(2) == 0:
		p.op = g.d.Pop()
	default:
		g.item++
		p.op, p.push = g.d.Push(g.item), true
	}
	g.parties[i] = p
	g.saw(i)
}

// saw has the party look, as it may at any time, without an access.
func (g *game) saw(i int) {
	own := g.d.Words(0, 4)
	p := &g.parties[i]
	p.slots = p.slots || own[0] >= own[1]
	p.stack = p.stack || own[3] == 0
}

// step does one step of a party; the others look on.
func (g *game) step(i int) {
	p := &g.parties[i]
	steps := g.c.Steps()
	done := p.op.Step()
	same(g.t, "accesses", g.c.Steps()-steps, 1)
	for j := range g.parties {
		g.saw(j)
	}
	if done {
		g.end(i)
	}
}

// end takes down what an operation told.
func (g *game) end(i int) {
	p := g.parties[i]
	v, errno := p.op.Value()
	switch {
	case p.push && errno == api.OK:
		g.pushed = append(g.pushed, v)
	case p.push:
		same(g.t, "Push", errno, api.ErrFull)
	case errno == api.OK:
		g.told = append(g.told, v)
	case errno == api.ErrEmpty:
		same(g.t, "saw it empty", p.slots && p.stack, true)
	default:
		same(g.t, "a thief came late", i > 0 && errno == api.ErrState, true)
	}
}

// play does so many steps, then all that is under way; a party that the
// order favours less may be stopped in the midst for long.
func (g *game) play(steps int) {
	weights := make([]int, len(g.parties))
	for i := range g.parties {
		g.begin(i)
	}
	for n := range steps {
		if n%50 == 0 {
			for i := range weights {
				weights[i] = g.r.Intn(4)
			}
		}
		i := g.r.Intn(len(g.parties))
		if g.r.Intn(4) < weights[i] {
			continue
		}
		g.step(i)
		if g.parties[i].op.Done() {
			g.begin(i)
		}
	}
	for left := true; left; {
		left = false
		for i, p := range g.parties {
			if !p.op.Done() {
				g.step(i)
				left = true
			}
		}
	}
}

// P6.4: whatever the order of steps, each item that was pushed is told once
// or lies there, and nothing else is told.
func TestEachItemOnce(t *testing.T) {
	lost, empty := 0, 0
	for seed := range int64(400) {
		r := rand.New(rand.NewSource(seed))
		slots, over := 1+r.Intn(4), r.Intn(3)
		d, c := made(t, 0, slots, over)
		g := &game{t: t, d: d, c: c, r: r, parties: make([]party, 1+r.Intn(5))}
		g.play(1500)
		l := append(g.d.Items(), g.told...)
		slices.Sort(l)
		slices.Sort(g.pushed)
		sameList(t, fmt.Sprintf("seed %d: told or there", seed), l, g.pushed)
		same(t, "freed", c.Words(2, 3)[0], 0)
		for _, p := range g.parties {
			switch _, errno := p.op.Value(); errno {
			case api.ErrState:
				lost++
			case api.ErrEmpty:
				empty++
			}
		}
	}
	same(t, "some came late", lost > 0, true)
	same(t, "some saw it empty", empty > 0, true)
}

// P6.4: also where parties run by themselves, each step at its own time.
func TestEachItemOnceAtOneTime(t *testing.T) {
	d, _ := made(t, 0, 3, 2)
	const thieves, items = 4, 3000
	got := make([][]int64, thieves+1)
	take := func(i int, o *deque.Op) {
		for !o.Step() {
		}
		if v, errno := o.Value(); errno == api.OK {
			got[i] = append(got[i], v)
		}
	}
	var all sync.WaitGroup
	for i := range thieves {
		all.Go(func() {
			for range items {
				take(i+1, d.Steal())
			}
		})
	}
	var pushed []int64
	for v := range int64(items) {
		o := d.Push(v)
		for !o.Step() {
		}
		if _, errno := o.Value(); errno == api.OK {
			pushed = append(pushed, v)
		}
		if v%3 == 0 {
			take(0, d.Pop())
		}
	}
	all.Wait()
	l := append(d.Items(), slices.Concat(got...)...)
	slices.Sort(l)
	sameList(t, "told or there", l, pushed)
}

// plain is the promise P6.2 as one reads it: a text with one access behind
// the other, which waits for its turn ahead of each of them.
type plain struct {
	words       []int64
	slots, over int
	turn        func()
}

func (m *plain) load(at int64) int64 {
	m.turn()
	return m.words[at]
}

func (m *plain) store(at, w int64) {
	m.turn()
	m.words[at] = w
}

func (m *plain) swap(at, old, new int64) bool {
	m.turn()
	if m.words[at] != old {
		return false
	}
	m.words[at] = new
	return true
}

func (m *plain) slot(n int64) int64 {
	k := int64(m.slots)
	return 4 + (n%k+k)%k
}

func (m *plain) cell(n int64) int64 { return 4 + int64(m.slots) + n }

func (m *plain) push(v int64) told {
	b := m.load(1)
	t := m.load(0)
	if b-t < int64(m.slots) {
		m.store(m.slot(b), v)
		m.store(1, b+1)
		return told{v, api.OK}
	}
	for !m.swap(2, 0, 1) {
	}
	n := m.load(3)
	if n >= int64(m.over) {
		m.store(2, 0)
		return told{0, api.ErrFull}
	}
	m.store(m.cell(n), v)
	m.store(3, n+1)
	m.store(2, 0)
	return told{v, api.OK}
}

func (m *plain) pop() told {
	b := m.load(1) - 1
	m.store(1, b)
	t := m.load(0)
	if t < b {
		return told{m.load(m.slot(b)), api.OK}
	}
	if t > b {
		m.store(1, t)
		return m.take()
	}
	v := m.load(m.slot(b))
	mine := m.swap(0, t, t+1)
	m.store(1, t+1)
	if mine {
		return told{v, api.OK}
	}
	return m.take()
}

func (m *plain) steal() told {
	t := m.load(0)
	b := m.load(1)
	if t >= b {
		return m.take()
	}
	v := m.load(m.slot(t))
	if m.swap(0, t, t+1) {
		return told{v, api.OK}
	}
	return told{0, api.ErrState}
}

func (m *plain) take() told {
	for !m.swap(2, 0, 1) {
	}
	n := m.load(3)
	if n == 0 {
		m.store(2, 0)
		return told{0, api.ErrEmpty}
	}
	v := m.load(m.cell(n - 1))
	m.store(3, n-1)
	m.store(2, 0)
	return told{v, api.OK}
}

// pair is an operation, and the plain text of it that waits for its turn.
type pair struct {
	op   *deque.Op
	next func() (struct{}, bool)
	stop func()
	told told
}

// couple begins the text, which stands then ahead of its first access.
func couple(op *deque.Op, m plain, text func(m *plain) told) *pair {
	p := &pair{op: op}
	p.next, p.stop = iter.Pull(func(yield func(struct{}) bool) {
		on := true
		m.turn = func() { on = on && yield(struct{}{}) }
		w := text(&m)
		if on {
			p.told = w
		}
	})
	p.next()
	return p
}

// anyPair is an operation of any kind; whether it is the owner's or not is
// not asked, since the steps are the same.
func anyPair(r *rand.Rand, d *deque.Deque, m plain) *pair {
	switch r.Intn(3) {
	case 0:
		v := r.Int63n(1000)
		return couple(d.Push(v), m, func(m *plain) told { return m.push(v) })
	case 1:
		return couple(d.Pop(), m, (*plain).pop)
	}
	return couple(d.Steal(), m, (*plain).steal)
}

// disturb has somebody else write a word into both memories; the lock is
// freed now and then, so that no text waits for ever.
func disturb(r *rand.Rand, c *cells.Cells, m plain) {
	at := r.Intn(len(m.words))
	w := int64(r.Intn(9) - 2)
	switch at {
	case 2:
		w = 0
	case 3:
		w = int64(r.Intn(m.over + 1))
	}
	m.words[at] = w
	c.Put(at, w)
}

// P6.2: step for step the same as the plain text, while others write what
// they like, operations of the owner's at the same time too.
func TestAgainstPlainText(t *testing.T) {
	for seed := range int64(300) {
		r := rand.New(rand.NewSource(seed))
		m := plain{slots: 1 + r.Intn(4), over: r.Intn(4)}
		d, c := made(t, 0, m.slots, m.over)
		m.words = make([]int64, c.Len())
		l := make([]*pair, 1+r.Intn(4))
		for range 400 {
			i := r.Intn(len(l))
			if l[i] == nil {
				l[i] = anyPair(r, d, m)
			}
			done := l[i].op.Step()
			_, goes := l[i].next()
			same(t, fmt.Sprintf("seed %d: done", seed), done, !goes)
			sameList(t, fmt.Sprintf("seed %d: cells", seed), c.Words(0, c.Len()), m.words)
			if t.Failed() {
				return
			}
			if done {
				same(t, fmt.Sprintf("seed %d: Value", seed), value(l[i].op), l[i].told)
				l[i] = nil
			}
			if m.words[3] < 0 || m.words[3] > int64(m.over) {
				m.words[3] = 0
				c.Put(3, 0)
			}
			if r.Intn(5) == 0 {
				disturb(r, c, m)
			}
		}
		for _, p := range l {
			if p != nil {
				m.words[2], m.words[3] = 0, 0
				p.stop()
			}
		}
	}
}
