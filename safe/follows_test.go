package safe_test

import (
	"fmt"
	"math/rand"
	"slices"
	"testing"

	"ballast/api"
	"ballast/safe"
)

// account is a plain account of a safepoint, for whatever is called: the
// chapter's promises, word by word, over a list of threads.
type account struct {
	threads []at
	armed   bool
}

type at struct{ thread, state int }

func (a *account) find(thread int) *at {
	for i := range a.threads {
		if a.threads[i].thread == thread {
			return &a.threads[i]
		}
	}
	return nil
}

func (a *account) in(state int) []int {
	var l []int
	for _, x := range a.threads {
		if x.state == state {
			l = append(l, x.thread)
		}
	}
	slices.Sort(l)
	return l
}

func (a *account) reached() bool { return a.armed && len(a.in(api.Runs)) == 0 }

func (a *account) look() stand {
	var all []int
	for _, x := range a.threads {
		all = append(all, x.thread)
	}
	slices.Sort(all)
	return stand{a.armed, a.reached(), fmt.Sprint(all), fmt.Sprint(a.in(api.Runs)), fmt.Sprint(a.in(api.Parked)), fmt.Sprint(a.in(api.Held))}
}

func (a *account) add(thread int) string {
	switch {
	case a.find(thread) != nil:
		return "0"
	case a.armed:
		a.threads = append(a.threads, at{thread, api.Parked})
	default:
		a.threads = append(a.threads, at{thread, api.Runs})
	}
	return "1"
}

func (a *account) end(thread int) string {
	n := len(a.threads)
	a.threads = slices.DeleteFunc(a.threads, func(x at) bool { return x.thread == thread })
	return fmt.Sprint(n - len(a.threads))
}

func (a *account) poll(thread int) string {
	x := a.find(thread)
	if x == nil || x.state != api.Runs || !a.armed {
		return "false"
	}
	x.state = api.Parked
	return "true"
}

func (a *account) hold(thread int) string {
	x := a.find(thread)
	switch {
	case x == nil:
		return "17"
	case x.state != api.Runs:
		return "16"
	}
	x.state = api.Held
	return "0"
}

func (a *account) free(thread int) string {
	x := a.find(thread)
	switch {
	case x == nil:
		return "false 17"
	case x.state != api.Held:
		return "false 16"
	case a.armed:
		x.state = api.Parked
		return "false 0"
	}
	x.state = api.Runs
	return "true 0"
}

func (a *account) arm() string {
	if a.armed {
		return "false"
	}
	a.armed = true
	return "true"
}

func (a *account) resume() string {
	if !a.reached() {
		return "[]"
	}
	a.armed = false
	parked := a.in(api.Parked)
	for _, thread := range parked {
		a.find(thread).state = api.Runs
	}
	return fmt.Sprint(parked)
}

// call is one of the calls that change something.
type call struct {
	name   string
	thread int
}

func (c call) of(s *safe.Safe) string {
	switch c.name {
	case "Add":
		return fmt.Sprint(s.Add(c.thread))
	case "End":
		return fmt.Sprint(s.End(c.thread))
	case "Poll":
		return fmt.Sprint(s.Poll(c.thread))
	case "Hold":
		return fmt.Sprint(int(s.Hold(c.thread)))
	case "Free":
		runs, errno := s.Free(c.thread)
		return fmt.Sprint(runs, int(errno))
	case "Arm":
		return fmt.Sprint(s.Arm())
	}
	return fmt.Sprint(s.Resume())
}

func (c call) ofAccount(a *account) string {
	switch c.name {
	case "Add":
		return a.add(c.thread)
	case "End":
		return a.end(c.thread)
	case "Poll":
		return a.poll(c.thread)
	case "Hold":
		return a.hold(c.thread)
	case "Free":
		return a.free(c.thread)
	case "Arm":
		return a.arm()
	}
	return a.resume()
}

// calls are all calls but Resume, of these threads.
func calls(threads ...int) []call {
	l := []call{{"Arm", 0}}
	for _, thread := range threads {
		for _, name := range []string{"Add", "End", "Poll", "Hold", "Free"} {
			l = append(l, call{name, thread})
		}
	}
	return l
}

// every does a play once for each order in which n parts may be picked so
// many times.
func every(n, picks int, play func(order []int)) {
	order := make([]int, picks)
	for {
		play(order)
		at := picks - 1
		for ; at >= 0 && order[at] == n-1; at-- {
			order[at] = 0
		}
		if at < 0 {
			return
		}
		order[at]++
	}
}

// P9.1 to P9.3: every order of five calls, of two threads.
func TestEveryOrderOfCalls(t *testing.T) {
	all := append(calls(1, 2), call{"Resume", 0})
	every(len(all), 5, func(order []int) {
		s, a := safe.New(), &account{}
		for n, i := range order {
			if got, want := all[i].of(s), all[i].ofAccount(a); got != want {
				t.Fatalf("%v of %v: %s, want %s", order[:n+1], all, got, want)
			}
		}
		if got, want := look(s), a.look(); got != want {
			t.Fatalf("%v of %v: %v, want %v", order, all, got, want)
		}
	})
}

// P9.1 to P9.3: every call, in every state of three threads, and all others
// that may follow it.
func TestEveryCallInEveryState(t *testing.T) {
	all := append(calls(1, 2, 3, 4), call{"Resume", 0})
	for _, armed := range []bool{false, true} {
		states := reachable(armed)
		every(len(states), 3, func(picks []int) {
			every(len(all), 2, func(order []int) {
				s, a := with(t, armed, states[picks[0]], states[picks[1]], states[picks[2]]), &account{armed: armed}
				for i, pick := range picks {
					if states[pick] != 0 {
						a.threads = append(a.threads, at{i + 1, states[pick]})
					}
				}
				ahead := a.look()
				for _, i := range order {
					got, want := all[i].of(s), all[i].ofAccount(a)
					if got != want || look(s) != a.look() {
						t.Fatalf("from %v, %v of %v: %s %v, want %s %v", ahead, order, all, got, look(s), want, a.look())
					}
				}
			})
		})
	}
}

// P9.1 to P9.3, R4: long orders of calls, of more threads; the same calls have
// the same answers.
func TestManyOrdersOfCalls(t *testing.T) {
	reached, resumed := 0, 0
	for seed := range int64(500) {
		r := rand.New(rand.NewSource(seed))
		s, again, a := safe.New(), &safe.Safe{}, &account{}
		threads := make([]int, 1+r.Intn(7))
		for i := range threads {
			threads[i] = r.Intn(40) - 20
		}
		all := append(calls(threads...), call{"Resume", 0}, call{"Resume", 0})
		for n := range 300 {
			c := all[r.Intn(len(all))]
			got, same, want := c.of(s), c.of(again), c.ofAccount(a)
			if got != want || same != want || look(s) != a.look() || look(again) != a.look() {
				t.Fatalf("seed %d, call %d, %v: %s %v, %s %v, want %s %v", seed, n, c, got, look(s), same, look(again), want, a.look())
			}
			if a.reached() {
				reached++
			}
			if c.name == "Resume" && want != "[]" {
				resumed++
			}
		}
	}
	if reached == 0 || resumed == 0 {
		t.Errorf("%d times reached, %d times resumed", reached, resumed)
	}
}

// still fails where some one runs, or the safepoint is no more reached.
func still(t *testing.T, what string, s *safe.Safe) {
	t.Helper()
	if runs := s.In(api.Runs); len(runs) > 0 || !s.Reached() || !s.Armed() {
		t.Fatalf("%s: %v run, reached %v, armed %v", what, runs, s.Reached(), s.Armed())
	}
}

// P9.4: once it is reached nobody runs, whatever comes: every order of three
// calls, from every state of three threads in which it is reached.
func TestNobodyRunsInEveryOrder(t *testing.T) {
	all := calls(1, 2, 3, 4)
	stands := []int{0, api.Parked, api.Held}
	every(len(stands), 3, func(picks []int) {
		every(len(all), 3, func(order []int) {
			s := with(t, true, stands[picks[0]], stands[picks[1]], stands[picks[2]])
			for _, i := range order {
				all[i].of(s)
				still(t, fmt.Sprint(picks, order, all), s)
			}
		})
	})
}

// P9.4: the same of long orders, of more threads; then Resume has those run
// that are parked, and no others.
func TestNobodyRunsTillResume(t *testing.T) {
	for seed := range int64(300) {
		r := rand.New(rand.NewSource(seed))
		states := make([]int, r.Intn(10))
		for i := range states {
			states[i] = []int{0, api.Parked, api.Held}[r.Intn(3)]
		}
		s := with(t, true, states...)
		all := calls(1, 2, 3, 4, 5, 6, 7, 8, 9, 10, 11, -1)
		for n := range 200 {
			all[r.Intn(len(all))].of(s)
			still(t, fmt.Sprint("seed ", seed, ", call ", n), s)
			if n%50 == 49 {
				parked, held := s.In(api.Parked), s.In(api.Held)
				sameList(t, "Resume()", s.Resume(), parked...)
				sameList(t, "who runs", s.In(api.Runs), parked...)
				sameList(t, "who is held", s.In(api.Held), held...)
				s.Arm()
				for _, thread := range parked {
					s.Poll(thread)
				}
				still(t, fmt.Sprint("seed ", seed, ", armed anew"), s)
			}
		}
	}
}

// orders has every order of 0 to n - 1.
func orders(n int) [][]int {
	if n == 0 {
		return [][]int{nil}
	}
	var l [][]int
	for _, shorter := range orders(n - 1) {
		for i := range n {
			l = append(l, slices.Insert(slices.Clone(shorter), i, n-1))
		}
	}
	return l
}

// P9.4: armed, with each thread that runs polling, holding or ending once, in
// any order, it is reached, and not ahead of the last one.
func TestReachedInAnyOrder(t *testing.T) {
	means := []string{"Poll", "Hold", "End"}
	for n := range 5 {
		for _, order := range orders(n) {
			every(len(means), n, func(picks []int) {
				// The others are parked, held and none, and stay so.
				s := with(t, true, append(slices.Repeat([]int{api.Runs}, n), api.Parked, api.Held, 0)...)
				told := []int{}
				for k, i := range order {
					if s.Reached() || len(s.Resume()) > 0 {
						t.Fatalf("%v by %v: reached ahead of the last one, at %d", order, picks, k)
					}
					c := call{means[picks[i]], i + 1}
					c.of(s)
					if c.name == "Poll" {
						told = append(told, c.thread)
					}
				}
				still(t, fmt.Sprint(order, " by ", picks), s)
				told = append(told, n+1)
				slices.Sort(told)
				sameList(t, fmt.Sprint(order, " by ", picks, ": Resume()"), s.Resume(), told...)
			})
		}
	}
}

// P9.4: the same of more threads, while others come, end, and are freed.
func TestReachedWhileOthersCome(t *testing.T) {
	const run = 9
	for seed := range int64(300) {
		r := rand.New(rand.NewSource(seed))
		s := with(t, true, append(slices.Repeat([]int{api.Runs}, run), api.Held, api.Parked, api.Held)...)
		others := calls(run+1, run+2, run+3, run+4, run+5)
		for k, i := range r.Perm(run) {
			for range r.Intn(6) {
				others[r.Intn(len(others))].of(s)
				sameList(t, "Resume too early", s.Resume())
				if s.Reached() {
					t.Fatalf("seed %d: reached ahead of the last one, at %d", seed, k)
				}
			}
			call{[]string{"Poll", "Hold", "End"}[r.Intn(3)], i + 1}.of(s)
			same(t, fmt.Sprint("seed ", seed, ": how many run"), len(s.In(api.Runs)), run-1-k)
		}
		still(t, fmt.Sprint("seed ", seed), s)
	}
}
