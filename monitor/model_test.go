package monitor_test

import (
	"fmt"
	"math/rand"
	"slices"
	"testing"

	"ballast/monitor"
)

// account is a plain account of a table: the chapter's promises, word by word,
// over a list of monitors.
type account struct{ list []*record }

type record struct {
	object        int64
	holder, times int
	queue, aside  []waiter
}

type waiter struct{ thread, times int }

func (a *account) find(object int64) *record {
	for _, r := range a.list {
		if r.object == object {
			return r
		}
	}
	r := &record{object: object}
	a.list = append(a.list, r)
	return r
}

// forget drops those that have none of all.
func (a *account) forget() {
	a.list = slices.DeleteFunc(a.list, func(r *record) bool {
		return r.holder == 0 && len(r.queue) == 0 && len(r.aside) == 0
	})
}

func (a *account) held(thread int) bool {
	for _, r := range a.list {
		for _, w := range append(slices.Clone(r.queue), r.aside...) {
			if w.thread == thread {
				return true
			}
		}
	}
	return false
}

// letIn has the first one of the queue hold it, as many times as it stands
// there for.
func (r *record) letIn() int {
	r.holder, r.times = 0, 0
	if len(r.queue) > 0 {
		r.holder, r.times = r.queue[0].thread, r.queue[0].times
		r.queue = slices.Clone(r.queue[1:])
	}
	return r.holder
}

func (a *account) of(c call) string {
	defer a.forget()
	switch {
	case c.thread <= 0 || c.object == 0:
		return c.refused(1)
	case a.held(c.thread):
		return c.refused(16)
	}
	r := a.find(c.object)
	if c.name != "Enter" && r.holder != c.thread {
		return "0 16"
	}
	switch c.name {
	case "Enter":
		return r.enter(c.thread)
	case "Exit":
		r.times--
		if r.times > 0 {
			return "0 0"
		}
		return fmt.Sprint(r.letIn(), " 0")
	case "Wait":
		r.aside = append(r.aside, waiter{c.thread, r.times})
		return fmt.Sprint(r.letIn(), " 0")
	}
	n := 0
	for len(r.aside) > 0 && (n == 0 || c.name == "NotifyAll") {
		r.queue = append(r.queue, r.aside[0])
		r.aside = slices.Clone(r.aside[1:])
		n++
	}
	return fmt.Sprint(n, " 0")
}

func (r *record) enter(thread int) string {
	switch r.holder {
	case 0:
		r.holder, r.times = thread, 1
	case thread:
		r.times++
	default:
		r.queue = append(r.queue, waiter{thread, 1})
		return "false 0"
	}
	return "true 0"
}

func (a *account) sort() {
	slices.SortFunc(a.list, func(x, y *record) int {
		switch {
		case x.object < y.object:
			return -1
		case x.object > y.object:
			return 1
		}
		return 0
	})
}

func (a *account) move(where func(object int64) int64) {
	a.sort()
	var l []*record
	for _, r := range a.list {
		to := where(r.object)
		if to == 0 {
			continue
		}
		l = slices.DeleteFunc(l, func(less *record) bool { return less.object == to })
		l = append(l, &record{to, r.holder, r.times, r.queue, r.aside})
	}
	a.list = l
}

func numbers(l []waiter) []int {
	n := []int{}
	for _, w := range l {
		n = append(n, w.thread)
	}
	return n
}

func (a *account) look() string {
	a.sort()
	text := ""
	for _, r := range a.list {
		text += fmt.Sprint(r.object, ": ", r.holder, " ", r.times, " ", numbers(r.queue), " ", numbers(r.aside), "; ")
	}
	for thread := range 13 {
		if a.held(thread) {
			text += fmt.Sprint(thread, " ")
		}
	}
	return text
}

// calls are all calls of these threads at these objects.
func calls(threads []int, objects ...int64) []call {
	var l []call
	for _, thread := range threads {
		for _, object := range objects {
			for _, name := range names() {
				l = append(l, call{name, thread, object})
			}
		}
	}
	return l
}

// every does a play once for each order in which n parts may be picked so
// many times.
func every(n, picks int, play func(order []int)) {
	order := make([]int, picks)
	for {
		play(order)
		at := picks - 1
		for ; at >= 0 && order[at] == n-1; at-- {
			order[at] = 0
		}
		if at < 0 {
			return
		}
		order[at]++
	}
}

// P17.1 to P17.3: every order of so many calls, of two and three threads at one
// object, and of two at two.
func TestEveryOrderOfCalls(t *testing.T) {
	for _, c := range []struct {
		all   []call
		picks int
	}{
		{calls([]int{1, 2}, 8), 5}, {calls([]int{1, 2, 3}, -8), 4}, {calls([]int{1, 2}, 8, -8), 4},
	} {
		every(len(c.all), c.picks, func(order []int) {
			x, a := &monitor.Table{}, &account{}
			for n, i := range order {
				if got, want := c.all[i].of(x), a.of(c.all[i]); got != want {
					t.Fatalf("%v of %v: %s, want %s", order[:n+1], c.all, got, want)
				}
			}
			if got, want := look(x), a.look(); got != want {
				t.Fatalf("%v of %v: %s, want %s", order, c.all, got, want)
			}
		})
	}
}

// places draws where objects go: some stay, some go in rings, some to where
// others are, or to 0.
func places(r *rand.Rand, objects []int64) map[int64]int64 {
	pairs := map[int64]int64{}
	for i, k := range r.Perm(len(objects)) {
		switch r.Intn(4) {
		case 0:
			pairs[objects[i]] = int64(r.Intn(9) - 4)
		case 1, 2:
			pairs[objects[i]] = objects[k]
		}
	}
	return pairs
}

// P17.1 to P17.4, R4: long orders of calls and moves, of more threads at more
// objects; the same calls have the same answers.
func TestManyOrdersOfCalls(t *testing.T) {
	counts := map[string]int{}
	for seed := range int64(600) {
		r := rand.New(rand.NewSource(seed))
		threads := r.Perm(12)[:1+r.Intn(9)]
		all := calls(threads, []int64{-3, 2, 7, -90, 1}[:1+r.Intn(5)]...)
		all = append(all, call{"Enter", 0, 8}, call{"Exit", -5, 1}, call{"Wait", 3, 0})
		x, again, a := monitor.New(), &monitor.Table{}, &account{}
		for n := range 300 {
			c := all[r.Intn(len(all))]
			if r.Intn(3) > 0 { // most calls are of who may make them
				for range 4 {
					if a.held(c.thread) || c.name != "Enter" && holder(x, c.object) != c.thread {
						c = all[r.Intn(len(all))]
					}
				}
			}
			got, twice, want := c.of(x), c.of(again), a.of(c)
			counts[c.name+" "+want]++
			if r.Intn(60) == 0 {
				pairs := places(r, x.Objects())
				moves(x, pairs)
				moves(again, pairs)
				a.move(func(object int64) int64 {
					if to, is := pairs[object]; is {
						return to
					}
					return object
				})
			}
			if got != want || twice != want || look(x) != a.look() || look(again) != a.look() {
				t.Fatalf("seed %d, call %d, %v: %s %v, %s %v, want %s %v", seed, n, c, got, look(x), twice, look(again), want, a.look())
			}
		}
	}
	for _, some := range []string{"Enter true 0", "Enter false 0", "Enter false 16", "Enter false 1", "Exit 0 0", "Exit 3 0", "Exit 0 16", "Wait 0 0", "Wait 3 0", "Wait 0 16", "Notify 0 0", "Notify 1 0", "NotifyAll 0 0", "NotifyAll 1 0", "NotifyAll 3 0"} {
		if counts[some] < 20 {
			t.Errorf("%s: %d times", some, counts[some])
		}
	}
}
