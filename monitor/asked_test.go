package monitor_test

import (
	"fmt"
	"math"
	"testing"

	"ballast/api"
	"ballast/monitor"
)

// P17.3: where there is no monitor nobody is told, and asking makes none.
func TestNothingToTell(t *testing.T) {
	for name, x := range map[string]*monitor.Table{"New()": monitor.New(), "zero": {}, "nil": nil} {
		for _, object := range append(wide(), 0, 8) {
			same(t, fmt.Sprint(name, ": at ", object), at(x, object), "0 0 [] []")
		}
		for _, thread := range append(far(), 1, 2, math.MaxInt) {
			same(t, fmt.Sprint(name, ": Held ", thread), x.Held(thread), false)
		}
		sameList(t, name+": Objects", x.Objects())
	}
	x := some(t)
	ahead := look(x)
	for _, object := range append(wide(), 0, 7, 9, 72) {
		same(t, fmt.Sprint("at ", object), at(x, object), "0 0 [] []")
	}
	for _, thread := range append(far(), 1, 5, 8, math.MaxInt) {
		same(t, fmt.Sprint("Held ", thread), x.Held(thread), false)
	}
	same(t, "all", look(x), ahead)
}

// P17.3: Objects rises, whatever the order in which they came.
func TestObjects(t *testing.T) {
	orders := [][]int64{wide(), {8, -8, 3, -3, 5, math.MinInt64, 1, math.MaxInt64, -1}, {-1, 1}, {1, -1}, {7}}
	for _, order := range orders {
		x := monitor.New()
		for n, object := range order {
			switch n % 3 {
			case 0:
				enters(x, object, 1)
			case 1:
				waits(x, object, n+2)
			default:
				enters(x, object, n+2, n+2)
			}
		}
		told := x.Objects()
		same(t, fmt.Sprint(order, ": how many"), len(told), len(order))
		for i := 1; i < len(told); i++ {
			same(t, fmt.Sprint(told, ": rising at ", i), told[i-1] < told[i], true)
		}
		for _, object := range order {
			same(t, fmt.Sprint(told, ": has ", object), at(x, object) != "0 0 [] []", true)
		}
	}
}

// P17.3: a monitor that has nobody left is forgotten; one that somebody stands
// aside at is not.
func TestForgotten(t *testing.T) {
	gone := func(what string, x *monitor.Table) {
		t.Helper()
		same(t, what+": at 8", at(x, 8), "0 0 [] []")
		sameList(t, what+": Objects", x.Objects(), 70)
		same(t, what+": all", look(x), "70: 12 1 [] []; ")
	}
	x := monitor.New()
	enters(x, 70, 12)
	gone("ahead", x)
	enters(x, 8, 1, 1)
	call{"Exit", 1, 8}.of(x)
	sameList(t, "once more to exit", x.Objects(), 8, 70)
	call{"Exit", 1, 8}.of(x)
	gone("by Exit", x)
	enters(x, 8, 1, 2)
	call{"Exit", 1, 8}.of(x)
	sameList(t, "one let in", x.Objects(), 8, 70)
	call{"Exit", 2, 8}.of(x)
	gone("by the Exit of one that was let in", x)
	waits(x, 8, 2)
	sameList(t, "one aside", x.Objects(), 8, 70)
	enters(x, 8, 1)
	call{"Exit", 1, 8}.of(x)
	sameList(t, "one aside still", x.Objects(), 8, 70)
	same(t, "at 8", at(x, 8), "0 0 [] [2]")
	enters(x, 8, 1)
	call{"Notify", 1, 8}.of(x)
	call{"Exit", 1, 8}.of(x)
	call{"Exit", 2, 8}.of(x)
	sameList(t, "one came back twice", x.Objects(), 8, 70)
	call{"Exit", 2, 8}.of(x)
	gone("by the Exit of one that came back", x)
	same(t, "Enter anew", call{"Enter", 2, 8}.of(x), "true 0")
	same(t, "at 8 anew", at(x, 8), "2 1 [] []")
}

// P17.3: Held of each, as it goes from one place to the other.
func TestHeld(t *testing.T) {
	x := monitor.New()
	held := func(what string, want ...int) {
		t.Helper()
		var got []int
		for thread := range 13 {
			if x.Held(thread) {
				got = append(got, thread)
			}
		}
		sameList(t, what, got, want...)
	}
	held("none")
	enters(x, 8, 1)
	held("who holds doesn't stand")
	enters(x, 8, 2, 3)
	held("in the queue", 2, 3)
	call{"Wait", 1, 8}.of(x)
	held("aside, and one let in by Wait", 1, 3)
	call{"Notify", 2, 8}.of(x)
	held("told", 1, 3)
	call{"Exit", 2, 8}.of(x)
	held("let in by Exit", 1)
	call{"Wait", 3, 8}.of(x)
	held("let in once told", 3)
	call{"Exit", 1, 8}.of(x)
	held("left alone aside", 3)
	isRefused(t, x, 3, 8, api.ErrState)
	held("refused", 3)
}

// R3: what is told is the caller's own: it may be changed, and to it may be
// added.
func TestToldIsTheCallersOwn(t *testing.T) {
	x := monitor.New()
	waits(x, 8, 3, 4, 5)
	enters(x, 8, 1, 2, 6, 7)
	enters(x, -5, 9)
	spoil := func() {
		for _, l := range [][]int{x.Queue(8), x.Aside(8)} {
			for i := range l {
				l[i] = 11
			}
			_ = append(l[:0], 12, 12)
			_ = append(l, 12)
		}
		l := x.Objects()
		for i := range l {
			l[i] = 99
		}
		_ = append(l, 12)
	}
	ahead := look(x)
	spoil()
	same(t, "all", look(x), ahead)
	call{"Notify", 1, 8}.of(x)
	spoil()
	same(t, "all behind Notify", look(x), "-5: 9 1 [] []; 8: 1 1 [2 6 7 3] [4 5]; 2 3 4 5 6 7 ")
	enters(x, 8, 10)
	same(t, "all behind Enter", look(x), "-5: 9 1 [] []; 8: 1 1 [2 6 7 3 10] [4 5]; 2 3 4 5 6 7 10 ")
}

// R3: what is told doesn't change later.
func TestToldStays(t *testing.T) {
	x := monitor.New()
	waits(x, 8, 3, 4, 5)
	enters(x, 8, 1, 2, 6)
	queue, aside, objects := x.Queue(8), x.Aside(8), x.Objects()
	call{"Notify", 1, 8}.of(x)
	call{"Wait", 1, 8}.of(x)
	call{"Exit", 2, 8}.of(x)
	enters(x, 8, 7, 9)
	enters(x, 2, 10)
	x.Move(func(object int64) int64 { return object + 1 })
	sameList(t, "Queue", queue, 2, 6)
	sameList(t, "Aside", aside, 3, 4, 5)
	sameList(t, "Objects", objects, 8)
}

// A nil table takes no threads; a zero one is New().
func TestNilAndZero(t *testing.T) {
	var none *monitor.Table
	for _, thread := range append(far(), 1, math.MaxInt) {
		for _, object := range append(wide(), 0) {
			isRefused(t, none, thread, object, api.ErrArg)
		}
	}
	asked := 0
	none.Move(func(int64) int64 { asked++; return 1 })
	none.Move(nil)
	same(t, "asked by a nil one", asked, 0)
	for name, begin := range map[string]func() *monitor.Table{
		"New()": monitor.New,
		"zero":  func() *monitor.Table { return &monitor.Table{} },
	} {
		for _, c := range []call{{"Exit", 1, 8}, {"Wait", 1, 8}, {"Notify", 1, 8}, {"NotifyAll", 1, 8}} {
			x := begin()
			same(t, fmt.Sprint(name, ": ", c), c.of(x), "0 16")
			same(t, fmt.Sprint(name, ": all behind ", c), look(x), "")
		}
		x := begin()
		x.Move(func(int64) int64 { asked++; return 1 })
		same(t, name+": asked", asked, 0)
		isRefused(t, x, 0, 8, api.ErrArg)
		isRefused(t, x, 1, 0, api.ErrArg)
		waits(x, 8, 3)
		enters(x, 8, 1, 2)
		same(t, name+": Notify", call{"Notify", 1, 8}.of(x), "1 0")
		same(t, name+": all", look(x), "8: 1 1 [2 3] []; 2 3 ")
	}
}

// R4: one table leaves another one as it is.
func TestTablesByThemselves(t *testing.T) {
	x, y := monitor.New(), monitor.New()
	enters(x, 8, 1, 2)
	same(t, "Enter", call{"Enter", 2, 8}.of(y), "true 0")
	same(t, "the one", look(x), "8: 1 1 [2] []; 2 ")
	same(t, "the other one", look(y), "8: 2 1 [] []; ")
}
