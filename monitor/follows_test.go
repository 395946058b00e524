package monitor_test

import (
	"fmt"
	"math/rand"
	"slices"
	"strconv"
	"strings"
	"testing"

	"ballast/monitor"
)

// hears goes by nothing but what the calls told: who is in at each object, who
// waits there since when, who waits to be told, and how deep each one is in.
type hears struct {
	in           map[int64]int
	queue, aside map[int64][]int
	deep         map[spot]int
	let, told    int
}

type spot struct {
	thread int
	object int64
}

func newHears() *hears {
	return &hears{map[int64]int{}, map[int64][]int{}, map[int64][]int{}, map[spot]int{}, 0, 0}
}

// left is what comes of one who leaves for good: nobody but the one that has
// waited for it longest is let in.
func (h *hears) left(object int64, in int) string {
	queue := h.queue[object]
	h.in[object] = in
	switch {
	case in == 0 && len(queue) > 0:
		return fmt.Sprint("nobody was let in of ", queue)
	case in != 0 && (len(queue) == 0 || queue[0] != in):
		return fmt.Sprint(in, " was let in of ", queue)
	case in != 0:
		h.queue[object] = queue[1:]
		h.deep[spot{in, object}] = max(1, h.deep[spot{in, object}])
		h.let++
	}
	return ""
}

// hear takes what a call told, and has what is wrong with it.
func (h *hears) hear(c call, told string) string {
	what, errno, _ := strings.Cut(told, " ")
	if errno != "0" {
		return ""
	}
	if c.name == "Enter" {
		return h.enter(c, what == "true")
	}
	n, _ := strconv.Atoi(what)
	if h.in[c.object] != c.thread {
		return fmt.Sprint(h.in[c.object], " is in")
	}
	switch c.name {
	case "Exit":
		return h.exit(c, n)
	case "Wait":
		h.aside[c.object] = append(h.aside[c.object], c.thread)
		return h.left(c.object, n)
	}
	return h.notify(c, n)
}

func (h *hears) enter(c call, in bool) string {
	holds := h.in[c.object]
	switch {
	case in && holds != 0 && holds != c.thread:
		return fmt.Sprint(holds, " is in")
	case in:
		h.in[c.object] = c.thread
		h.deep[spot{c.thread, c.object}]++
	case holds == 0 || holds == c.thread:
		return "it might have come in"
	default:
		h.queue[c.object] = append(h.queue[c.object], c.thread)
	}
	return ""
}

func (h *hears) exit(c call, in int) string {
	h.deep[spot{c.thread, c.object}]--
	if h.deep[spot{c.thread, c.object}] == 0 {
		return h.left(c.object, in)
	}
	if in != 0 {
		return fmt.Sprint(in, " was let in, and ", c.thread, " is in")
	}
	return ""
}

func (h *hears) notify(c call, n int) string {
	aside := h.aside[c.object]
	want := len(aside)
	if c.name == "Notify" {
		want = min(want, 1)
	}
	if n != want {
		return fmt.Sprint("these wait to be told: ", aside)
	}
	h.queue[c.object] = append(h.queue[c.object], aside[:n]...)
	h.aside[c.object] = slices.Clone(aside[n:])
	h.told += n
	return ""
}

// wrong is where a table tells otherwise than what was heard.
func (h *hears) wrong(x *monitor.Table, objects []int64) string {
	for _, object := range objects {
		in, times := x.Holder(object)
		if in != h.in[object] || times != h.deep[spot{in, object}] {
			return fmt.Sprint(in, " holds ", object, " ", times, " times, and ", h.in[object], " is in")
		}
		if got, want := x.Queue(object), h.queue[object]; !slices.Equal(got, want) {
			return fmt.Sprint("the queue of ", object, " is ", got, ", and these wait: ", want)
		}
		if got, want := x.Aside(object), h.aside[object]; !slices.Equal(got, want) {
			return fmt.Sprint("aside at ", object, " are ", got, ", and these wait to be told: ", want)
		}
	}
	return ""
}

// P17.5: one holder at most; who leaves for good lets in the one that has
// waited longest; nobody who stands aside comes back untold.
func TestWhatFollows(t *testing.T) {
	let, told := 0, 0
	for seed := range int64(500) {
		r := rand.New(rand.NewSource(seed))
		objects := []int64{7, -7, 1, 90}[:1+r.Intn(4)]
		threads := []int{1, 2, 3, 4, 5, 6, 7, 8}[:1+r.Intn(8)]
		all := calls(threads, objects...)
		x, h := monitor.New(), newHears()
		for n := range 400 {
			c := all[r.Intn(len(all))]
			answer := c.of(x)
			if wrong := h.hear(c, answer) + h.wrong(x, objects); wrong != "" {
				t.Fatalf("seed %d, call %d, %v told %s: %s", seed, n, c, answer, wrong)
			}
		}
		let += h.let
		told += h.told
	}
	if let < 1000 || told < 1000 {
		t.Errorf("%d were let in, %d told", let, told)
	}
}

// P17.5: the same in every order of five calls of three threads at one object.
func TestWhatFollowsInEveryOrder(t *testing.T) {
	all := calls([]int{1, 2, 3}, 8)
	every(len(all), 5, func(order []int) {
		x, h := monitor.New(), newHears()
		for n, i := range order {
			c := all[i]
			answer := c.of(x)
			if wrong := h.hear(c, answer) + h.wrong(x, []int64{8}); wrong != "" {
				t.Fatalf("%v of %v: %v told %s: %s", order[:n+1], all, c, answer, wrong)
			}
		}
	})
}

// P17.5: a thread that waits for one object and isn't let in there goes on at
// none; who stands aside stays there, whatever others do, till it is told.
func TestNobodyComesBackUntold(t *testing.T) {
	for seed := range int64(200) {
		r := rand.New(rand.NewSource(seed))
		x := monitor.New()
		waits(x, 8, 9, 10)
		all := slices.DeleteFunc(calls([]int{1, 2, 3, 4}, 8, 5), func(c call) bool {
			return c.object == 8 && strings.HasPrefix(c.name, "Notify")
		})
		for range 200 {
			all[r.Intn(len(all))].of(x)
			if l := x.Aside(8); l[0] != 9 || l[1] != 10 || !x.Held(9) || !x.Held(10) {
				t.Fatalf("seed %d: aside are %v", seed, l)
			}
			for _, c := range calls([]int{9, 10}, 8, 5) {
				if got := c.of(x); got != c.refused(16) {
					t.Fatalf("seed %d: %v told %s", seed, c, got)
				}
			}
		}
	}
}

// drawn is a table behind many calls, and another one behind the same.
func drawn(r *rand.Rand, objects []int64) (x, y *monitor.Table) {
	all := calls([]int{1, 2, 3, 4, 5, 6, 7, 8, 9}, objects...)
	x, y = monitor.New(), monitor.New()
	for range 20 + r.Intn(60) {
		c := all[r.Intn(len(all))]
		c.of(x)
		c.of(y)
	}
	return x, y
}

// P17.5: moved one-to-one nothing else is changed: all calls behind it tell, at
// the new places, what they tell at the old ones of a table that didn't move;
// moved back all is as it was.
func TestMoveOneToOne(t *testing.T) {
	for seed := range int64(400) {
		r := rand.New(rand.NewSource(seed))
		objects := []int64{-4, -1, 3, 8, 20, 21}
		x, y := drawn(r, objects)
		ahead := look(x)
		to, from := map[int64]int64{}, map[int64]int64{}
		// Places lie among the objects themselves, and beside them.
		places := []int64{-4, -1, 3, 8, 20, 21, -50, 2, 9, 77}
		for i, k := range r.Perm(len(places))[:len(objects)] {
			to[objects[i]], from[places[k]] = places[k], objects[i]
		}
		moves(x, to)
		for _, object := range objects {
			if got, want := at(x, to[object]), at(y, object); got != want {
				t.Fatalf("seed %d: %d at %d: %s, want %s", seed, object, to[object], got, want)
			}
		}
		same(t, "how many", len(x.Objects()), len(y.Objects()))
		for thread := range 13 {
			same(t, fmt.Sprint("Held ", thread), x.Held(thread), y.Held(thread))
		}
		if r.Intn(2) == 0 {
			moves(x, from)
			same(t, fmt.Sprintf("seed %d: moved back", seed), look(x), ahead)
			for _, object := range objects {
				to[object] = object
			}
		}
		all := calls([]int{1, 2, 3, 4, 5, 6, 7, 8, 9}, objects...)
		for n := range 150 {
			c := all[r.Intn(len(all))]
			moved := call{c.name, c.thread, to[c.object]}
			if got, want := moved.of(x), c.of(y); got != want {
				t.Fatalf("seed %d, call %d: %v told %s, %v told %s", seed, n, moved, got, c, want)
			}
			if got, want := at(x, moved.object), at(y, c.object); got != want {
				t.Fatalf("seed %d, call %d: behind %v %s, behind %v %s", seed, n, moved, got, c, want)
			}
		}
	}
}
