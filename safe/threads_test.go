package safe_test

import (
	"fmt"
	"math"
	"slices"
	"testing"

	"ballast/api"
	"ballast/safe"
)

func same[T comparable](t *testing.T, what string, got, want T) {
	t.Helper()
	if got != want {
		t.Errorf("%s: %v, want %v", what, got, want)
	}
}

func sameList(t *testing.T, what string, got []int, want ...int) {
	t.Helper()
	if !slices.Equal(got, want) {
		t.Errorf("%s: %v, want %v", what, got, want)
	}
}

// stand is all that can be asked of a safepoint.
type stand struct {
	armed, reached          bool
	all, runs, parked, held string
}

func look(s *safe.Safe) stand {
	return stand{s.Armed(), s.Reached(), fmt.Sprint(s.In()), fmt.Sprint(s.In(api.Runs)), fmt.Sprint(s.In(api.Parked)), fmt.Sprint(s.In(api.Held))}
}

// with has the threads 1, 2 and so on in these states, 0 for one that isn't
// there. None can be parked at a safepoint that isn't armed.
func with(t *testing.T, armed bool, states ...int) *safe.Safe {
	t.Helper()
	s := safe.New()
	each := func(state int, do func(thread int)) {
		for i, x := range states {
			if x == state {
				do(i + 1)
			}
		}
	}
	each(api.Runs, func(thread int) { s.Add(thread) })
	each(api.Parked, func(thread int) { s.Add(thread) })
	each(api.Held, func(thread int) { s.Add(thread); s.Hold(thread) })
	if armed {
		s.Arm()
	}
	each(api.Parked, func(thread int) { s.Poll(thread) })
	if s.Armed() != armed {
		t.Fatalf("%v: armed is %v", states, s.Armed())
	}
	for i, want := range states {
		if got := s.State(i + 1); got != want {
			t.Fatalf("%v, armed %v: the state of %d is %d", states, armed, i+1, got)
		}
	}
	return s
}

// P9.1: a new one, and a zero one, has no threads and is not armed.
func TestNewAndZero(t *testing.T) {
	for name, begin := range map[string]func() *safe.Safe{
		"New()": safe.New,
		"zero":  func() *safe.Safe { return &safe.Safe{} },
		"new":   func() *safe.Safe { return new(safe.Safe) },
	} {
		same(t, name, look(begin()), stand{false, false, "[]", "[]", "[]", "[]"})
		same(t, name+": State(0)", begin().State(0), 0)
		same(t, name+": State(1)", begin().State(1), 0)
		same(t, name+": Add()", begin().Add(), 0)
		same(t, name+": Add(1, 2)", begin().Add(1, 2), 2)
		same(t, name+": End()", begin().End(), 0)
		same(t, name+": End(0, 1)", begin().End(0, 1), 0)
		same(t, name+": Poll(1)", begin().Poll(1), false)
		same(t, name+": Hold(1)", begin().Hold(1), api.ErrTask)
		same(t, name+": Free(1)", free(begin(), 1), freed{false, api.ErrTask})
		same(t, name+": Arm()", begin().Arm(), true)
		sameList(t, name+": Resume()", begin().Resume())
		sameList(t, name+": In(1, 2, 3)", begin().In(1, 2, 3))
	}
}

// P9.1: a zero one goes on like a new one, whatever is called first.
func TestZeroGoesOn(t *testing.T) {
	for name, first := range map[string]func(s *safe.Safe){
		"End":  func(s *safe.Safe) { s.End(1) },
		"Poll": func(s *safe.Safe) { s.Poll(1) },
		"Hold": func(s *safe.Safe) { s.Hold(1) },
		"Free": func(s *safe.Safe) { s.Free(1) },
		"In":   func(s *safe.Safe) { s.In() },
		"Add":  func(s *safe.Safe) { s.Add() },
		"Arm": func(s *safe.Safe) {
			s.Arm()
			s.Poll(1)
			s.Hold(1)
			s.Free(1)
			s.End(1)
			s.Resume()
		},
	} {
		var s safe.Safe
		first(&s)
		same(t, name+", then Add(2, 1)", s.Add(2, 1), 2)
		same(t, name+", then all", look(&s), stand{false, false, "[1 2]", "[1 2]", "[]", "[]"})
	}
}

// Below P9.4: a nil one tells 0, false, nothing, ErrTask, at each call.
func TestNil(t *testing.T) {
	var s *safe.Safe
	for range 2 {
		for _, thread := range []int{0, 1, -1, math.MinInt, math.MaxInt} {
			same(t, "Add", s.Add(thread), 0)
			same(t, "End", s.End(thread), 0)
			same(t, "Poll", s.Poll(thread), false)
			same(t, "Hold", s.Hold(thread), api.ErrTask)
			same(t, "Free", free(s, thread), freed{false, api.ErrTask})
			same(t, "State", s.State(thread), 0)
			sameList(t, "In", s.In(thread))
		}
		same(t, "Add of none", s.Add(), 0)
		same(t, "Add of several", s.Add(1, 2, 1), 0)
		same(t, "End of none", s.End(), 0)
		same(t, "End of several", s.End(1, 2, 1), 0)
		same(t, "Arm", s.Arm(), false)
		same(t, "Armed", s.Armed(), false)
		same(t, "Reached", s.Reached(), false)
		sameList(t, "Resume", s.Resume())
		sameList(t, "In of all", s.In())
		sameList(t, "In of several", s.In(1, 2, 3))
	}
}

// P9.1: Add has those come that aren't there, each once, and they run.
func TestAdd(t *testing.T) {
	s := safe.New()
	same(t, "Add()", s.Add(), 0)
	sameList(t, "In()", s.In())
	same(t, "Add(3)", s.Add(3), 1)
	same(t, "Add(3) again", s.Add(3), 0)
	same(t, "Add(5, 5)", s.Add(5, 5), 1)
	same(t, "Add(4, 3, 1, 5, 1, 2)", s.Add(4, 3, 1, 5, 1, 2), 3)
	same(t, "all", look(s), stand{false, false, "[1 2 3 4 5]", "[1 2 3 4 5]", "[]", "[]"})
	for thread := 1; thread <= 5; thread++ {
		same(t, "State", s.State(thread), api.Runs)
	}
}

// P9.1: Add of one that is there leaves it as it stands, armed or not.
func TestAddOfOneThatIsThere(t *testing.T) {
	for _, armed := range []bool{false, true} {
		for _, state := range reachable(armed) {
			if state == 0 {
				continue
			}
			s := with(t, armed, state, api.Held)
			ahead := look(s)
			same(t, "Add(1, 2, 1)", s.Add(1, 2, 1), 0)
			same(t, fmt.Sprintf("armed %v, state %d", armed, state), look(s), ahead)
		}
	}
}

// reachable are the states in which a thread may be found; 0: none.
func reachable(armed bool) []int {
	if armed {
		return []int{0, api.Runs, api.Parked, api.Held}
	}
	return []int{0, api.Runs, api.Held}
}

// P9.1: who comes while it is armed is parked.
func TestAddWhileArmed(t *testing.T) {
	s := with(t, true, api.Runs, 0, api.Held)
	same(t, "Add(4, 2, 1, 2)", s.Add(4, 2, 1, 2), 2)
	same(t, "all", look(s), stand{true, false, "[1 2 3 4]", "[1]", "[2 4]", "[3]"})
	same(t, "Poll(2)", s.Poll(2), false)
	same(t, "Hold(2)", s.Hold(2), api.ErrState)
	s.Poll(1)
	same(t, "Add(5)", s.Add(5), 1)
	same(t, "once it is reached", look(s), stand{true, true, "[1 2 3 4 5]", "[]", "[1 2 4 5]", "[3]"})
	sameList(t, "Resume()", s.Resume(), 1, 2, 4, 5)
	same(t, "Add(6)", s.Add(6), 1)
	same(t, "State(6) behind Resume", s.State(6), api.Runs)
}

// P9.1: a thread that has ended comes anew, as any other, and not in the state
// that it had.
func TestAddAnew(t *testing.T) {
	s := with(t, false, api.Held, api.Runs)
	same(t, "End(1)", s.End(1), 1)
	same(t, "Add(1)", s.Add(1), 1)
	same(t, "State(1)", s.State(1), api.Runs)
	s.Arm()
	same(t, "End(2)", s.End(2), 1)
	same(t, "Add(2)", s.Add(2), 1)
	same(t, "State(2)", s.State(2), api.Parked)
}

// P9.1: End has those go that are there, each once, in whatever state.
func TestEnd(t *testing.T) {
	s := with(t, true, api.Runs, api.Parked, api.Held, api.Runs, api.Runs)
	same(t, "End()", s.End(), 0)
	same(t, "End of others", s.End(0, 6, -1, math.MinInt, math.MaxInt), 0)
	same(t, "all", look(s), stand{true, false, "[1 2 3 4 5]", "[1 4 5]", "[2]", "[3]"})
	same(t, "End(4, 4)", s.End(4, 4), 1)
	same(t, "End(4)", s.End(4), 0)
	same(t, "without 4", look(s), stand{true, false, "[1 2 3 5]", "[1 5]", "[2]", "[3]"})
	same(t, "End(3, 9, 1, 4, 2, 3)", s.End(3, 9, 1, 4, 2, 3), 3)
	same(t, "without all but 5", look(s), stand{true, false, "[5]", "[5]", "[]", "[]"})
	for _, thread := range []int{1, 2, 3, 4} {
		same(t, "State", s.State(thread), 0)
		same(t, "Poll", s.Poll(thread), false)
		same(t, "Hold", s.Hold(thread), api.ErrTask)
		same(t, "Free", free(s, thread), freed{false, api.ErrTask})
	}
	same(t, "End(5)", s.End(5), 1)
	same(t, "none", look(s), stand{true, true, "[]", "[]", "[]", "[]"})
}

// P9.1: any number may be a thread's.
func TestAnyNumber(t *testing.T) {
	numbers := []int{math.MaxInt, 0, math.MinInt, -1, 1, math.MinInt + 1, math.MaxInt - 1, 1 << 33, -1 << 33}
	s := safe.New()
	same(t, "Add", s.Add(numbers...), len(numbers))
	same(t, "Add again", s.Add(numbers...), 0)
	rising := slices.Sorted(slices.Values(numbers))
	sameList(t, "In()", s.In(), rising...)
	for _, thread := range numbers {
		same(t, "State", s.State(thread), api.Runs)
		same(t, "Hold", s.Hold(thread), api.OK)
		same(t, "State of one that is held", s.State(thread), api.Held)
		same(t, "Free", free(s, thread), freed{true, api.OK})
	}
	s.Arm()
	for _, thread := range numbers {
		same(t, "Poll", s.Poll(thread), true)
	}
	sameList(t, "Resume()", s.Resume(), rising...)
	same(t, "End of both ends", s.End(math.MinInt, math.MaxInt, 0, -1, -2), 4)
	same(t, "State of what ended", s.State(math.MinInt)+s.State(math.MaxInt)+s.State(0)+s.State(-1), 0)
	same(t, "all that are left", len(s.In()), len(numbers)-4)
}

// P9.1: In is the threads in one of these states, each once, rising.
func TestIn(t *testing.T) {
	s := with(t, true, api.Held, api.Runs, api.Parked, 0, api.Parked, api.Held, api.Runs)
	s.Add(-3)
	for _, k := range []struct{ states, want []int }{
		{nil, []int{-3, 1, 2, 3, 5, 6, 7}},
		{[]int{}, []int{-3, 1, 2, 3, 5, 6, 7}},
		{[]int{api.Runs}, []int{2, 7}},
		{[]int{api.Parked}, []int{-3, 3, 5}},
		{[]int{api.Held}, []int{1, 6}},
		{[]int{api.Runs, api.Parked}, []int{-3, 2, 3, 5, 7}},
		{[]int{api.Held, api.Runs}, []int{1, 2, 6, 7}},
		{[]int{api.Held, api.Parked}, []int{-3, 1, 3, 5, 6}},
		{[]int{3, 2, 1}, []int{-3, 1, 2, 3, 5, 6, 7}},
		{[]int{api.Held, api.Held}, []int{1, 6}},
		{[]int{1, 3, 1, 3, 1}, []int{1, 2, 6, 7}},
		{[]int{0}, nil},
		{[]int{4}, nil},
		{[]int{-1}, nil},
		{[]int{math.MinInt, math.MaxInt, 0, 4, 5, 257, -255, 1 << 32, 1<<32 + 1}, nil},
		{[]int{0, api.Parked, 9, -1}, []int{-3, 3, 5}},
	} {
		sameList(t, fmt.Sprint("In of ", k.states), s.In(k.states...), k.want...)
	}
}

// P9.1: In asks, and changes nothing.
func TestAskingChangesNothing(t *testing.T) {
	for _, armed := range []bool{false, true} {
		s := with(t, armed, api.Held, api.Runs, 0)
		ahead := look(s)
		for range 3 {
			s.State(1)
			s.State(3)
			s.In(0, 1)
			s.Armed()
			s.Reached()
		}
		same(t, "all", look(s), ahead)
		same(t, "Add(3)", s.Add(3), 1)
	}
}

// R3: lists that are handed in stay as they are, and may be changed later.
func TestLeavesItsLists(t *testing.T) {
	s := safe.New()
	l := []int{4, 2, 2, 9, 1}
	same(t, "Add", s.Add(l...), 4)
	sameList(t, "what Add was handed", l, 4, 2, 2, 9, 1)
	clear(l)
	sameList(t, "In behind it", s.In(), 1, 2, 4, 9)
	l = []int{9, 1, 9, 7}
	same(t, "End", s.End(l...), 2)
	sameList(t, "what End was handed", l, 9, 1, 9, 7)
	l = []int{3, 1, 1, 0}
	sameList(t, "In", s.In(l...), 2, 4)
	sameList(t, "what In was handed", l, 3, 1, 1, 0)
}

// R3: what In told is its owner's, and doesn't change later.
func TestInIsItsOwners(t *testing.T) {
	s := with(t, false, api.Runs, api.Held, api.Runs)
	all, runs := s.In(), s.In(api.Runs)
	s.End(1)
	s.Hold(3)
	s.Add(4)
	sameList(t, "all, ahead", all, 1, 2, 3)
	sameList(t, "those that ran", runs, 1, 3)
	for _, l := range [][]int{s.In(), s.In(api.Runs), s.In(api.Held)} {
		clear(l[:cap(l)])
	}
	same(t, "behind it", look(s), stand{false, false, "[2 3 4]", "[4]", "[]", "[2 3]"})
	_ = append(s.In(api.Held), 7)
	sameList(t, "In(Held)", s.In(api.Held), 2, 3)
}

// R3: two safepoints have nothing together.
func TestApart(t *testing.T) {
	a, b := safe.New(), safe.New()
	a.Add(1, 2)
	a.Arm()
	same(t, "the other one", look(b), stand{false, false, "[]", "[]", "[]", "[]"})
	b.Add(2, 3)
	b.Hold(2)
	b.End(3)
	same(t, "the first one", look(a), stand{true, false, "[1 2]", "[1 2]", "[]", "[]"})
	same(t, "the other one again", look(b), stand{false, false, "[2]", "[]", "[]", "[2]"})
}

// R5: as many threads and states as there may be.
func TestMany(t *testing.T) {
	const many = 200000
	threads, states := make([]int, 0, 2*many), make([]int, many)
	for i := range many {
		threads = append(threads, many-i, many-i)
		states[i] = i
	}
	s := safe.New()
	same(t, "Add", s.Add(threads...), many)
	in := s.In(states...)
	same(t, "how many", len(in), many)
	for i, thread := range in {
		if thread != i+1 {
			t.Fatalf("In tells %d at %d", thread, i)
		}
	}
	s.Arm()
	for _, thread := range in {
		s.Poll(thread)
	}
	same(t, "Resume", slices.Equal(s.Resume(), in), true)
	same(t, "End", s.End(threads...), many)
	sameList(t, "In()", s.In())
}
