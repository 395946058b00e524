package monitor_test

import (
	"fmt"
	"math"
	"slices"
	"testing"

	"ballast/api"
	"ballast/monitor"
)

func same[T comparable](t *testing.T, what string, got, want T) {
	t.Helper()
	if got != want {
		t.Errorf("%s: %v, want %v", what, got, want)
	}
}

func sameList[T comparable](t *testing.T, what string, got []T, want ...T) {
	t.Helper()
	if !slices.Equal(got, want) {
		t.Errorf("%s: %v, want %v", what, got, want)
	}
}

// call is one of the calls that threads make.
type call struct {
	name   string
	thread int
	object int64
}

// names are all of them.
func names() []string { return []string{"Enter", "Exit", "Wait", "Notify", "NotifyAll"} }

// of makes a call, and has what it told as a text: what, and the error.
func (c call) of(x *monitor.Table) string {
	switch c.name {
	case "Enter":
		in, errno := x.Enter(c.thread, c.object)
		return fmt.Sprint(in, " ", int(errno))
	case "Exit":
		in, errno := x.Exit(c.thread, c.object)
		return fmt.Sprint(in, " ", int(errno))
	case "Wait":
		in, errno := x.Wait(c.thread, c.object)
		return fmt.Sprint(in, " ", int(errno))
	}
	n, errno := x.Notify(c.thread, c.object, c.name == "NotifyAll")
	return fmt.Sprint(n, " ", int(errno))
}

// refused is what a call tells with an error.
func (c call) refused(errno api.Errno) string {
	if c.name == "Enter" {
		return fmt.Sprint("false ", int(errno))
	}
	return fmt.Sprint("0 ", int(errno))
}

// enters has threads enter an object, in this order.
func enters(x *monitor.Table, object int64, threads ...int) {
	for _, thread := range threads {
		x.Enter(thread, object)
	}
}

// waits has threads that stand nowhere stand aside at an object that nobody
// holds: each enters as many times as its number says.
func waits(x *monitor.Table, object int64, threads ...int) {
	for _, thread := range threads {
		for range thread {
			x.Enter(thread, object)
		}
		x.Wait(thread, object)
	}
}

// at is all that is told of an object.
func at(x *monitor.Table, object int64) string {
	holder, times := x.Holder(object)
	return fmt.Sprint(holder, " ", times, " ", x.Queue(object), " ", x.Aside(object))
}

// look is all that is told of a table, as far as the threads 0 to 12 are asked
// for.
func look(x *monitor.Table) string {
	text := ""
	for _, object := range x.Objects() {
		text += fmt.Sprint(object, ": ", at(x, object), "; ")
	}
	for thread := range 13 {
		if x.Held(thread) {
			text += fmt.Sprint(thread, " ")
		}
	}
	return text
}

// far are numbers of threads that can't be.
func far() []int { return []int{math.MinInt, math.MinInt + 1, math.MinInt32, -8, -1, 0} }

// wide are objects from the least to the greatest.
func wide() []int64 {
	return []int64{math.MinInt64, math.MinInt64 + 1, math.MinInt32, -2, -1, 1, 2, math.MaxInt32, math.MaxInt64 - 1, math.MaxInt64}
}

// some is a table in which threads hold, stand in queues, and stand aside.
func some(t *testing.T) *monitor.Table {
	t.Helper()
	x := monitor.New()
	waits(x, 8, 3, 4)
	enters(x, 8, 1, 1, 2)
	enters(x, -9, 5, 6)
	enters(x, 70, 5)
	waits(x, 71, 7)
	same(t, "some", look(x), "-9: 5 1 [6] []; 8: 1 2 [2] [3 4]; 70: 5 1 [] []; 71: 0 0 [] [7]; 2 3 4 6 7 ")
	return x
}

// The chapter's examples.
func TestExamples(t *testing.T) {
	x := monitor.New()
	for _, c := range []struct {
		call
		want string
	}{
		{call{"Enter", 1, 8}, "true 0"}, {call{"Enter", 1, 8}, "true 0"}, {call{"Enter", 2, 8}, "false 0"},
		{call{"Exit", 1, 8}, "0 0"}, {call{"Exit", 1, 8}, "2 0"},
	} {
		same(t, fmt.Sprint(c.call), c.of(x), c.want)
	}
	same(t, "at 8", at(x, 8), "2 1 [] []")
	for _, c := range []struct {
		call
		want string
	}{{call{"Wait", 2, 8}, "0 0"}, {call{"Enter", 1, 8}, "true 0"}, {call{"Notify", 1, 8}, "1 0"}} {
		same(t, fmt.Sprint(c.call), c.of(x), c.want)
	}
	sameList(t, "Queue(8)", x.Queue(8), 2)
	same(t, "Enter(2, 9) while it stands", call{"Enter", 2, 9}.of(x), "false 16")
	same(t, "Exit(1, 8)", call{"Exit", 1, 8}.of(x), "2 0")
	same(t, "Exit(1, 8) again", call{"Exit", 1, 8}.of(x), "0 16")
}

// The numbers of the errors that the chapter names.
func TestErrors(t *testing.T) {
	same(t, "ErrArg", api.ErrArg, 1)
	same(t, "ErrState", api.ErrState, 16)
}

// isRefused holds that each of the calls is refused, and changes nothing.
func isRefused(t *testing.T, x *monitor.Table, thread int, object int64, errno api.Errno) {
	t.Helper()
	ahead := look(x)
	for _, name := range names() {
		c := call{name, thread, object}
		same(t, fmt.Sprint(c), c.of(x), c.refused(errno))
		same(t, fmt.Sprint(c, ": all behind it"), look(x), ahead)
	}
}

// All calls: a thread that is not above 0, and an object of 0, whoever asks.
func TestNoThreadAndNoObject(t *testing.T) {
	x := some(t)
	for _, thread := range far() {
		for _, object := range append(wide(), 8, -9, 70, 71, 0) {
			isRefused(t, x, thread, object, api.ErrArg)
		}
	}
	for _, thread := range []int{1, 2, 3, 4, 5, 6, 7, 8, math.MaxInt} {
		isRefused(t, x, thread, 0, api.ErrArg)
	}
}

// All calls: a thread that stands in a queue, or aside, at that object or at
// another one.
func TestWhoStandsMayNotCall(t *testing.T) {
	x := some(t)
	for _, thread := range []int{2, 3, 4, 6, 7} {
		for _, object := range append(wide(), 8, -9, 70, 71, 72) {
			isRefused(t, x, thread, object, api.ErrState)
		}
	}
}

// All calls: who stands may not call though it holds other objects, and may
// again once it is let in.
func TestWhoHoldsAndStands(t *testing.T) {
	x := monitor.New()
	enters(x, 5, 1, 1)
	enters(x, 6, 2)
	same(t, "Enter", call{"Enter", 1, 6}.of(x), "false 0")
	for _, object := range []int64{5, 6, 7} {
		isRefused(t, x, 1, object, api.ErrState)
	}
	same(t, "Exit", call{"Exit", 2, 6}.of(x), "1 0")
	same(t, "Enter again", call{"Enter", 1, 5}.of(x), "true 0")
	same(t, "Wait", call{"Wait", 1, 6}.of(x), "0 0")
	for _, object := range []int64{5, 6, 7} {
		isRefused(t, x, 1, object, api.ErrState)
	}
	enters(x, 6, 2)
	same(t, "Notify", call{"Notify", 2, 6}.of(x), "1 0")
	for _, object := range []int64{5, 6, 7} {
		isRefused(t, x, 1, object, api.ErrState)
	}
	same(t, "Exit then", call{"Exit", 2, 6}.of(x), "1 0")
	same(t, "Exit of the other one", call{"Exit", 1, 5}.of(x), "0 0")
	same(t, "all", look(x), "5: 1 2 [] []; 6: 1 1 [] []; ")
}

// P17.1: an object that nobody holds, once and more times.
func TestEnter(t *testing.T) {
	for _, object := range wide() {
		x := monitor.New()
		for times := 1; times <= 9; times++ {
			same(t, fmt.Sprint("Enter ", times), call{"Enter", 3, object}.of(x), "true 0")
			same(t, fmt.Sprint("at ", times), at(x, object), fmt.Sprint("3 ", times, " [] []"))
		}
	}
}

// P17.1: who doesn't come in stands at the queue's end, for once, and is let
// in in that order.
func TestQueue(t *testing.T) {
	x := monitor.New()
	order := []int{4, 9, 2, math.MaxInt, 7, 1}
	for i, thread := range order {
		same(t, fmt.Sprint("Enter ", thread), call{"Enter", thread, 8}.of(x), fmt.Sprint(i == 0, " 0"))
		same(t, fmt.Sprint("at ", i), at(x, 8), fmt.Sprint("4 1 ", order[1:i+1], " []"))
	}
	for i, thread := range order {
		next := append(order[i+1:], 0)[0]
		same(t, fmt.Sprint("Exit ", thread), call{"Exit", thread, 8}.of(x), fmt.Sprint(next, " 0"))
		holder, times := x.Holder(8)
		same(t, "Holder", holder, next)
		same(t, "times", times, min(next, 1))
		sameList(t, "Queue", x.Queue(8), order[min(i+2, len(order)):]...)
	}
	sameList(t, "Objects", x.Objects())
}

// P17.1: who entered several times leaves for good by the last Exit alone.
func TestExitOfSeveralTimes(t *testing.T) {
	for n := 1; n <= 6; n++ {
		for _, queue := range [][]int{nil, {2}, {3, 2, 9}} {
			x := monitor.New()
			for range n {
				enters(x, 8, 1)
			}
			enters(x, 8, queue...)
			for left := n - 1; left > 0; left-- {
				same(t, fmt.Sprint("Exit, left ", left), call{"Exit", 1, 8}.of(x), "0 0")
				same(t, fmt.Sprint("at, left ", left), at(x, 8), fmt.Sprint("1 ", left, " ", queue, " []"))
			}
			in := append(queue, 0)[0]
			same(t, "the last Exit", call{"Exit", 1, 8}.of(x), fmt.Sprint(in, " 0"))
			same(t, "Exit behind it", call{"Exit", 1, 8}.of(x), "0 16")
			same(t, "Holder", holder(x, 8), in)
		}
	}
}

func holder(x *monitor.Table, object int64) int {
	thread, _ := x.Holder(object)
	return thread
}

// P17.1: who leaves and enters anew stands behind all others.
func TestEnterAnew(t *testing.T) {
	x := monitor.New()
	enters(x, 8, 1, 2, 3)
	holds := 1
	for range 30 {
		next := holds%3 + 1
		same(t, "Exit", call{"Exit", holds, 8}.of(x), fmt.Sprint(next, " 0"))
		same(t, "Enter", call{"Enter", holds, 8}.of(x), "false 0")
		same(t, "at 8", at(x, 8), fmt.Sprint(next, " 1 ", []int{next%3 + 1, holds}, " []"))
		holds = next
	}
}

// P17.1, P17.2: Exit, Wait and Notify of one that doesn't hold it: another one
// does, nobody does, somebody stands aside, nobody is there.
func TestWhoDoesNotHold(t *testing.T) {
	x := some(t)
	enters(x, 90, 8)
	call{"Exit", 8, 90}.of(x)
	ahead := look(x)
	for _, name := range names()[1:] {
		for _, thread := range []int{1, 5, 8, 9, math.MaxInt} {
			for _, object := range append(wide(), 8, -9, 70, 71, 90) {
				c := call{name, thread, object}
				if holder(x, object) != thread {
					same(t, fmt.Sprint(c), c.of(x), "0 16")
					same(t, fmt.Sprint(c, ": all behind it"), look(x), ahead)
				}
			}
		}
	}
}

// P17.1: a thread holds several objects, each by itself.
func TestSeveralObjects(t *testing.T) {
	x := monitor.New()
	for times, object := range wide() {
		for range times + 1 {
			same(t, fmt.Sprint("Enter ", object), call{"Enter", 1, object}.of(x), "true 0")
		}
		enters(x, object, times+2)
	}
	sameList(t, "Objects", x.Objects(), wide()...)
	for times, object := range wide() {
		same(t, fmt.Sprint("at ", object), at(x, object), fmt.Sprint("1 ", times+1, " ", []int{times + 2}, " []"))
	}
	for times, object := range wide() {
		for range times {
			same(t, fmt.Sprint("Exit ", object), call{"Exit", 1, object}.of(x), "0 0")
		}
		same(t, fmt.Sprint("the last Exit ", object), call{"Exit", 1, object}.of(x), fmt.Sprint(times+2, " 0"))
		same(t, fmt.Sprint("at then ", object), at(x, object), fmt.Sprint(times+2, " 1 [] []"))
	}
}

// R5: many objects, and a long queue.
func TestMany(t *testing.T) {
	const many = 100000
	x := monitor.New()
	for n := int64(1); n <= many; n++ {
		if in, errno := x.Enter(1, n*7); !in || errno != api.OK {
			t.Fatal("Enter", n, in, errno)
		}
	}
	for n := 2; n <= many; n++ {
		if in, errno := x.Enter(n, 7); in || errno != api.OK {
			t.Fatal("Enter", n, in, errno)
		}
	}
	same(t, "Objects", len(x.Objects()), many)
	same(t, "Queue", len(x.Queue(7)), many-1)
	x.Move(func(object int64) int64 { return -object })
	for n := 1; n < many; n++ {
		if in, errno := x.Wait(n, -7); in != n+1 || errno != api.OK {
			t.Fatal("Wait", n, in, errno)
		}
		if n%3 == 0 {
			if told, errno := x.Notify(n+1, -7, n%2 == 0); told == 0 || errno != api.OK {
				t.Fatal("Notify", n, told, errno)
			}
		}
	}
}
