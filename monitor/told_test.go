package monitor_test

import (
	"fmt"
	"testing"

	"ballast/monitor"
)

// P17.2: who waits stands aside; the first one of the queue, if there is one,
// holds it.
func TestWait(t *testing.T) {
	for _, queue := range [][]int{{}, {2}, {3, 2}, {9, 2, 5, 4}} {
		for _, aside := range [][]int{{}, {6}, {8, 7}} {
			for _, times := range []int{1, 2, 5} {
				x := monitor.New()
				waits(x, -8, aside...)
				for range times {
					enters(x, -8, 1)
				}
				enters(x, -8, queue...)
				what := fmt.Sprint(queue, aside, times)
				if len(queue) == 0 {
					same(t, what+": Wait", call{"Wait", 1, -8}.of(x), "0 0")
					same(t, what+": at", at(x, -8), fmt.Sprint("0 0 [] ", append(aside, 1)))
				} else {
					same(t, what+": Wait", call{"Wait", 1, -8}.of(x), fmt.Sprint(queue[0], " 0"))
					same(t, what+": at", at(x, -8), fmt.Sprint(queue[0], " 1 ", queue[1:], " ", append(aside, 1)))
				}
				same(t, what+": Held", x.Held(1), true)
			}
		}
	}
}

// P17.2: while one stands aside alone nobody holds it, and any other one may
// enter; nobody comes back by that.
func TestEnterWhileOneIsAside(t *testing.T) {
	x := monitor.New()
	waits(x, 8, 3)
	for _, thread := range []int{1, 2, 4} {
		same(t, "Enter", call{"Enter", thread, 8}.of(x), "true 0")
		same(t, "at 8", at(x, 8), fmt.Sprint(thread, " 1 [] [3]"))
		same(t, "Exit", call{"Exit", thread, 8}.of(x), "0 0")
		same(t, "at 8 then", at(x, 8), "0 0 [] [3]")
	}
}

// P17.2: of none, one and several that stand aside, one or all go to the end of
// the queue, in order; the holder stays it.
func TestNotify(t *testing.T) {
	for _, aside := range [][]int{{}, {6}, {8, 7}, {5, 9, 7, 6}} {
		for _, queue := range [][]int{{}, {2}, {4, 2, 3}} {
			for _, name := range []string{"Notify", "NotifyAll"} {
				x := monitor.New()
				waits(x, 8, aside...)
				enters(x, 8, 1, 1)
				enters(x, 8, queue...)
				n := len(aside)
				if name == "Notify" {
					n = min(n, 1)
				}
				what := fmt.Sprint(name, queue, aside)
				same(t, what, call{name, 1, 8}.of(x), fmt.Sprint(n, " 0"))
				want := fmt.Sprint("1 2 ", append(queue[:len(queue):len(queue)], aside[:n]...), " ", aside[n:])
				same(t, what+": at", at(x, 8), want)
				for _, thread := range aside {
					same(t, fmt.Sprint(what, ": Held ", thread), x.Held(thread), true)
				}
			}
		}
	}
}

// P17.2: who waited comes back as many times as it had entered, by Exit and by
// Wait of others.
func TestComesBackAsManyTimes(t *testing.T) {
	for _, name := range []string{"Exit", "Wait"} {
		x := monitor.New()
		waits(x, 8, 4, 2, 7)
		enters(x, 8, 1)
		same(t, "NotifyAll", call{"NotifyAll", 1, 8}.of(x), "3 0")
		enters(x, 8, 9)
		left := 1
		for _, thread := range []int{4, 2, 7} {
			same(t, fmt.Sprint(name, " ahead of ", thread), call{name, left, 8}.of(x), fmt.Sprint(thread, " 0"))
			_, times := x.Holder(8)
			same(t, "times", times, thread)
			for range thread - 1 {
				same(t, "Exit", call{"Exit", thread, 8}.of(x), "0 0")
			}
			left = thread
		}
		same(t, name+" of the last one", call{name, left, 8}.of(x), "9 0")
		same(t, "at 8 at last", at(x, 8)[:3], "9 1")
	}
}

// P17.2: who waits anew stands behind all others, with as many times as it has
// then.
func TestWaitAnew(t *testing.T) {
	x := monitor.New()
	waits(x, 8, 2, 3)
	enters(x, 8, 1)
	call{"Notify", 1, 8}.of(x)
	same(t, "Exit", call{"Exit", 1, 8}.of(x), "2 0")
	enters(x, 8, 2)
	same(t, "Wait", call{"Wait", 2, 8}.of(x), "0 0")
	sameList(t, "Aside", x.Aside(8), 3, 2)
	enters(x, 8, 1)
	same(t, "NotifyAll", call{"NotifyAll", 1, 8}.of(x), "2 0")
	call{"Exit", 1, 8}.of(x)
	same(t, "the first one", at(x, 8), "3 3 [2] []")
	same(t, "Wait", call{"Wait", 3, 8}.of(x), "2 0")
	same(t, "the other one", at(x, 8), "2 3 [] [3]")
}

// P17.2: whom Notify has stand in the queue keeps its place, whoever comes to
// stand behind it and aside meanwhile, in whichever order.
func TestToldAndOthersKeepTheirPlaces(t *testing.T) {
	x := monitor.New()
	waits(x, 8, 3, 4, 5, 6)
	enters(x, 8, 1)
	same(t, "Notify", call{"Notify", 1, 8}.of(x), "1 0")
	same(t, "Enter", call{"Enter", 2, 8}.of(x), "false 0")
	same(t, "at 8", at(x, 8), "1 1 [3 2] [4 5 6]")
	same(t, "Notify", call{"Notify", 1, 8}.of(x), "1 0")
	same(t, "Enter", call{"Enter", 7, 8}.of(x), "false 0")
	same(t, "at 8", at(x, 8), "1 1 [3 2 4 7] [5 6]")
	same(t, "Wait", call{"Wait", 1, 8}.of(x), "3 0")
	same(t, "at 8", at(x, 8), "3 3 [2 4 7] [5 6 1]")
	same(t, "NotifyAll", call{"NotifyAll", 3, 8}.of(x), "3 0")
	same(t, "Enter", call{"Enter", 8, 8}.of(x), "false 0")
	same(t, "at 8", at(x, 8), "3 3 [2 4 7 5 6 1 8] []")
	same(t, "Wait", call{"Wait", 3, 8}.of(x), "2 0")
	same(t, "Wait", call{"Wait", 2, 8}.of(x), "4 0")
	same(t, "at 8", at(x, 8), "4 4 [7 5 6 1 8] [3 2]")
}

// P17.2: one object's Wait and Notify leave those at another one as they are.
func TestToldAtOneObjectAlone(t *testing.T) {
	x := monitor.New()
	waits(x, 8, 3, 4)
	waits(x, 9, 5, 6)
	enters(x, 8, 1, 2)
	enters(x, 9, 1, 7)
	same(t, "NotifyAll", call{"NotifyAll", 1, 9}.of(x), "2 0")
	same(t, "all", look(x), "8: 1 1 [2] [3 4]; 9: 1 1 [7 5 6] []; 2 3 4 5 6 7 ")
	same(t, "Wait", call{"Wait", 1, 9}.of(x), "7 0")
	same(t, "all", look(x), "8: 1 1 [2] [3 4]; 9: 7 1 [5 6] [1]; 1 2 3 4 5 6 ")
}
