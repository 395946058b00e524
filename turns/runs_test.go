package turns_test

import (
	"math"
	"math/rand"
	"slices"
	"testing"

	"ballast/api"
	"ballast/turns"
)

// order is a script's tasks in the order in which they took steps.
type order struct{ taken []int }

// of is a step of that task that tells these numbers.
func (o *order) of(task int, tells ...int) func() int {
	step := telling(tells...)
	return func() int {
		o.taken = append(o.taken, task)
		return step()
	}
}

// always is a step of that task that Goes.
func (o *order) always(task int) func() int {
	return func() int {
		o.taken = append(o.taken, task)
		return api.Go
	}
}

// P2.3: the given picks come first, then 0, 1, 2 and so on, from 0 on.
func TestRunOfPicks(t *testing.T) {
	for _, k := range []struct {
		fuel  int
		picks []int
		want  []int
	}{
		{0, nil, nil},
		{-1, nil, nil},
		{math.MinInt, []int{1}, nil},
		{0, []int{2, 1}, nil},
		{1, []int{2, 1}, []int{3}},
		{2, []int{2, 1}, []int{3, 2}},
		{3, []int{2, 1}, []int{3, 2, 1}},
		{6, []int{2, 1}, []int{3, 2, 1, 2, 3, 1}},
		{5, nil, []int{1, 2, 3, 1, 2}},
		{3, []int{-1, -2, -3, -4}, []int{1, 2, 3}},
		{4, []int{math.MinInt, math.MaxInt}, []int{1 + math.MaxInt%3, 1 + math.MaxInt%3, 1, 2}},
	} {
		o := &order{}
		x := with(t, o.always(1), o.always(2), o.always(3))
		same(t, "Run", x.Run(k.fuel, k.picks...), len(k.want))
		sameList(t, "the steps", o.taken, k.want...)
	}
}

// P2.3: a run behind another one begins with its own picks, and then at 0.
func TestRunsBeginAnew(t *testing.T) {
	o := &order{}
	x := with(t, o.always(1), o.always(2), o.always(3))
	same(t, "Run(2)", x.Run(2), 2)
	same(t, "Run(2) again", x.Run(2), 2)
	same(t, "Run(1, 2, 2)", x.Run(1, 2, 2), 1)
	same(t, "Run(2, 2)", x.Run(2, 2), 2)
	sameList(t, "the steps", o.taken, 1, 2, 1, 2, 3, 3, 1)
}

// P2.3: a run ends when none is ready, be it among its picks or behind them;
// the pick that finds none is not counted.
func TestRunTillNoneIsReady(t *testing.T) {
	for _, k := range []struct {
		fuel  int
		picks []int
		want  []int
	}{
		{99, []int{1, 1, 1, 1, 1, 1, 1}, []int{2, 2, 2, 1, 1}},
		{99, nil, []int{1, 2, 1, 2, 2}},
		{math.MaxInt, []int{1}, []int{2, 1, 2, 1, 2}},
		{5, []int{0, 0, 0, 0, 0, 0}, []int{1, 1, 2, 2, 2}},
		{4, []int{0, 0, 0, 0, 0, 0}, []int{1, 1, 2, 2}},
	} {
		o := &order{}
		x := with(t, o.of(1, 0, 1), o.of(2, 0, 0, 2))
		same(t, "Run", x.Run(k.fuel, k.picks...), len(k.want))
		sameList(t, "the steps", o.taken, k.want...)
		same(t, "Run again", x.Run(99), 5-len(k.want))
		same(t, "Stuck", x.Stuck(), true)
	}
}

// P2.3: picks count those that are ready at their own time.
func TestRunPicksAmongThoseOfTheMoment(t *testing.T) {
	o := &order{}
	var x *turns.Turns
	last := o.of(3, 0, 1)
	x = with(t, o.of(1, 1, 0, 2), o.of(2, 0, 2), func() int {
		stands := last()
		if stands == api.Wait {
			x.Wake(1)
			x.Add(o.of(4, 2))
		}
		return stands
	})
	// Ready are 1 2 3; 2 3; 2 3; 2 3, where 3 wakes 1 and adds 4; 1 2 4;
	// 1 4; 1; 1; none.
	same(t, "Run", x.Run(99, 0, 1, 2, 1, 4, 3), 8)
	sameList(t, "the steps", o.taken, 1, 3, 2, 3, 2, 4, 1, 1)
	sameList(t, "State", states(x, 4), 2, 2, 1, 2)
}

// P2.3, R3: the picks stay as they are, and steps that write to them have no
// effect on the run.
func TestRunKeepsItsPicks(t *testing.T) {
	picks := []int{1, 1, 0}
	o := &order{}
	second := o.always(2)
	x := with(t, o.always(1), second, o.always(3))
	same(t, "Run", x.Run(5, picks...), 5)
	sameList(t, "the picks", picks, 1, 1, 0)

	o.taken = nil
	y := with(t, o.always(1), func() int {
		clear(picks)
		return second()
	})
	same(t, "Run that writes", y.Run(3, picks...), 3)
	sameList(t, "the steps", o.taken, 2, 2, 1)
}

// P2.3: Stuck is: none ready, and some one waits.
func TestStuck(t *testing.T) {
	for _, k := range []struct {
		tells []int
		want  bool
	}{
		{nil, false},
		{[]int{0}, false},
		{[]int{1}, true},
		{[]int{2}, false},
		{[]int{2, 2, 2}, false},
		{[]int{2, 1, 2}, true},
		{[]int{1, 1, 1}, true},
		{[]int{1, 0, 2}, false},
		{[]int{2, 0, 1}, false},
		{[]int{9, 1}, true},
	} {
		x := turns.New()
		at := 0
		for _, tells := range k.tells {
			x.Add(telling(tells))
			x.Pick(at)
			if tells == api.Go {
				at++
			}
		}
		same(t, "Stuck", x.Stuck(), k.want)
	}
}

// P2.4: who has ended takes no step any more, whatever is picked or woken.
func TestWhoHasEnded(t *testing.T) {
	w := &walker{tells: []int{2, 0, 0, 0}}
	x := with(t, w.step, goes)
	x.Pick(0)
	for p := range 20 {
		same(t, "Wake", x.Wake(1), 0)
		same(t, "Pick", pick(x, p-10), picked{2, true})
	}
	same(t, "Run", x.Run(20), 20)
	same(t, "steps of 1", w.taken, 1)
	sameList(t, "Steps", steps(x, 2), 1, 40)
}

// P2.4: who waits takes no step till it is woken.
func TestWhoWaits(t *testing.T) {
	w := &walker{tells: []int{1, 1, 0}}
	x := with(t, w.step, goes)
	x.Pick(0)
	same(t, "Run", x.Run(20), 20)
	same(t, "Wake of the other", x.Wake(2), 0)
	same(t, "Run behind it", x.Run(20, 0, 1, 2), 20)
	same(t, "steps of 1", w.taken, 1)
	same(t, "Wake", x.Wake(1), 1)
	same(t, "Pick", pick(x, 0), picked{1, true})
	same(t, "Run while it waits again", x.Run(20), 20)
	same(t, "steps of 1, woken once", w.taken, 2)
}

// P2.4: with picks by turns, each of n tasks that all Go takes a step within
// any n picks.
func TestPicksByTurnsAreFair(t *testing.T) {
	for _, n := range []int{1, 2, 3, 5, 64, 127, 128} {
		o := &order{}
		x := turns.New()
		for i := range n {
			x.Add(o.always(i + 1))
		}
		same(t, "Run", x.Run(3*n+1), 3*n+1)
		for from := range 2*n + 2 {
			window := slices.Clone(o.taken[from : from+n])
			slices.Sort(window)
			if len(slices.Compact(window)) != n {
				t.Fatalf("%d tasks, picks from %d on: %v", n, from, o.taken[from:from+n])
			}
		}
	}
}

// model is the chapter read line by line: what each task will tell, how it
// stands, and how many steps it took.
type model struct {
	tells         [][]int
	stands, taken []int
}

func (m *model) add(tells []int) {
	m.tells = append(m.tells, tells)
	m.stands = append(m.stands, api.Go)
	m.taken = append(m.taken, 0)
}

func (m *model) that(stand int) []int {
	var l []int
	for i, s := range m.stands {
		if s == stand {
			l = append(l, i+1)
		}
	}
	return l
}

func (m *model) pick(p int) picked {
	ready := m.that(api.Go)
	if len(ready) == 0 {
		return picked{}
	}
	if p < 0 {
		p = -(p + 1)
	}
	task := ready[p%len(ready)]
	m.stands[task-1] = api.End
	if taken := m.taken[task-1]; taken < len(m.tells[task-1]) {
		m.stands[task-1] = m.tells[task-1][taken]
	}
	m.taken[task-1]++
	return picked{task, true}
}

func (m *model) wake(tasks []int) int {
	woken := 0
	for _, task := range tasks {
		if task >= 1 && task <= len(m.stands) && m.stands[task-1] == api.Wait {
			m.stands[task-1] = api.Go
			woken++
		}
	}
	return woken
}

func (m *model) run(fuel int, picks []int) int {
	for i := range fuel {
		p := i - len(picks)
		if i < len(picks) {
			p = picks[i]
		}
		if !m.pick(p).ok {
			return i
		}
	}
	return max(fuel, 0)
}

// some is up to n numbers from -3 on.
func some(r *rand.Rand, n, below int) []int {
	l := make([]int, r.Intn(n+1))
	for i := range l {
		l[i] = r.Intn(below+3) - 3
	}
	return l
}

// P2.1 to P2.4, R4: calls in many orders tell what the model tells.
func TestManyCalls(t *testing.T) {
	r := rand.New(rand.NewSource(2))
	for range 200 {
		x, m := turns.New(), &model{}
		for range 60 {
			switch r.Intn(5) {
			case 0:
				tells := some(r, 6, 0)
				for i := range tells {
					tells[i] = r.Intn(10) % 4 % 3
				}
				m.add(tells)
				same(t, "Add", add(x, telling(tells...)), added{len(m.stands), api.OK})
			case 1, 2:
				p := r.Intn(40) - 20
				same(t, "Pick", pick(x, p), m.pick(p))
			case 3:
				tasks := some(r, 4, len(m.stands)+2)
				same(t, "Wake", x.Wake(tasks...), m.wake(tasks))
			case 4:
				fuel, picks := r.Intn(8)-1, some(r, 5, 9)
				same(t, "Run", x.Run(fuel, picks...), m.run(fuel, picks))
			}
			sameList(t, "Ready", x.Ready(), m.that(api.Go)...)
			sameList(t, "State", states(x, len(m.stands)), m.stands...)
			sameList(t, "Steps", steps(x, len(m.stands)), m.taken...)
			same(t, "Stuck", x.Stuck(), len(m.that(api.Go)) == 0 && len(m.that(api.Wait)) > 0)
		}
		if t.Failed() {
			return
		}
	}
}
