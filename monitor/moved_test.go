package monitor_test

import (
	"fmt"
	"math"
	"testing"

	"ballast/monitor"
)

// moves has a table's objects move by a list of pairs; those of none stay.
func moves(x *monitor.Table, pairs map[int64]int64) {
	x.Move(func(object int64) int64 {
		if to, is := pairs[object]; is {
			return to
		}
		return object
	})
}

// P17.4: to other places, to the same one, to 0, in a ring, to where another
// one was.
func TestMove(t *testing.T) {
	for name, c := range map[string]struct {
		pairs map[int64]int64
		want  string
	}{
		"to the same places": {nil, "-9: 5 1 [6] []; 8: 1 2 [2] [3 4]; 70: 5 1 [] []; 71: 0 0 [] [7]; 2 3 4 6 7 "},
		"one to another":     {map[int64]int64{8: 9}, "-9: 5 1 [6] []; 9: 1 2 [2] [3 4]; 70: 5 1 [] []; 71: 0 0 [] [7]; 2 3 4 6 7 "},
		"all to others":      {map[int64]int64{-9: 1, 8: 2, 70: 3, 71: 4}, "1: 5 1 [6] []; 2: 1 2 [2] [3 4]; 3: 5 1 [] []; 4: 0 0 [] [7]; 2 3 4 6 7 "},
		"to the ends":        {map[int64]int64{-9: math.MaxInt64, 71: math.MinInt64}, "-9223372036854775808: 0 0 [] [7]; 8: 1 2 [2] [3 4]; 70: 5 1 [] []; 9223372036854775807: 5 1 [6] []; 2 3 4 6 7 "},
		"two turned":         {map[int64]int64{8: -9, -9: 8}, "-9: 1 2 [2] [3 4]; 8: 5 1 [6] []; 70: 5 1 [] []; 71: 0 0 [] [7]; 2 3 4 6 7 "},
		"a ring, rising":     {map[int64]int64{-9: 8, 8: 70, 70: 71, 71: -9}, "-9: 0 0 [] [7]; 8: 5 1 [6] []; 70: 1 2 [2] [3 4]; 71: 5 1 [] []; 2 3 4 6 7 "},
		"a ring, falling":    {map[int64]int64{-9: 71, 8: -9, 70: 8, 71: 70}, "-9: 1 2 [2] [3 4]; 8: 5 1 [] []; 70: 0 0 [] [7]; 71: 5 1 [6] []; 2 3 4 6 7 "},
		"down, in a row":     {map[int64]int64{8: -9, 70: 8, 71: 70, -9: -10}, "-10: 5 1 [6] []; -9: 1 2 [2] [3 4]; 8: 5 1 [] []; 70: 0 0 [] [7]; 2 3 4 6 7 "},
		"one to 0":           {map[int64]int64{8: 0}, "-9: 5 1 [6] []; 70: 5 1 [] []; 71: 0 0 [] [7]; 6 7 "},
		"others to 0":        {map[int64]int64{-9: 0, 70: 0, 71: 0}, "8: 1 2 [2] [3 4]; 2 3 4 "},
		"all to 0":           {map[int64]int64{-9: 0, 8: 0, 70: 0, 71: 0}, ""},
		"0 to another":       {map[int64]int64{0: 5}, "-9: 5 1 [6] []; 8: 1 2 [2] [3 4]; 70: 5 1 [] []; 71: 0 0 [] [7]; 2 3 4 6 7 "},
		"to where one went":  {map[int64]int64{8: 0, 70: 8}, "-9: 5 1 [6] []; 8: 5 1 [] []; 71: 0 0 [] [7]; 6 7 "},
	} {
		x := some(t)
		moves(x, c.pairs)
		same(t, name, look(x), c.want)
	}
}

// P17.4: of two that come to one place the greater one's monitor stays,
// whichever of them was there; who stood at the other one stands nowhere.
func TestTwoToOnePlace(t *testing.T) {
	for name, c := range map[string]struct {
		pairs map[int64]int64
		want  string
	}{
		"the less to the greater": {map[int64]int64{-9: 8}, "8: 1 2 [2] [3 4]; 70: 5 1 [] []; 71: 0 0 [] [7]; 2 3 4 7 "},
		"the greater to the less": {map[int64]int64{8: -9}, "-9: 1 2 [2] [3 4]; 70: 5 1 [] []; 71: 0 0 [] [7]; 2 3 4 7 "},
		"both to another place":   {map[int64]int64{8: 30, -9: 30}, "30: 1 2 [2] [3 4]; 70: 5 1 [] []; 71: 0 0 [] [7]; 2 3 4 7 "},
		"both below":              {map[int64]int64{8: -30, 70: -30}, "-30: 5 1 [] []; -9: 5 1 [6] []; 71: 0 0 [] [7]; 6 7 "},
		"all to one":              {map[int64]int64{-9: 5, 8: 5, 70: 5, 71: 5}, "5: 0 0 [] [7]; 7 "},
		"all to the least":        {map[int64]int64{8: -9, 70: -9, 71: -9}, "-9: 0 0 [] [7]; 7 "},
		"three, and one to 0":     {map[int64]int64{-9: 8, 70: 8, 71: 0}, "8: 5 1 [] []; "},
	} {
		x := some(t)
		moves(x, c.pairs)
		same(t, name, look(x), c.want)
	}
	x := some(t)
	moves(x, map[int64]int64{8: 70})
	for _, thread := range []int{2, 3, 4} {
		same(t, fmt.Sprint("Enter ", thread), call{"Enter", thread, 8}.of(x), fmt.Sprint(thread == 2, " 0"))
	}
	same(t, "Exit of who held the other one", call{"Exit", 1, 70}.of(x), "0 16")
}

// P17.4: each is asked once, rising, and none else.
func TestMoveAsks(t *testing.T) {
	for name, to := range map[string]func(object int64) int64{
		"none moves":   func(object int64) int64 { return object },
		"all to 0":     func(int64) int64 { return 0 },
		"all to one":   func(int64) int64 { return 5 },
		"each by one":  func(object int64) int64 { return object + 1 },
		"turned":       func(object int64) int64 { return -object },
		"into the way": func(object int64) int64 { return object + 62 },
	} {
		x := some(t)
		var asked []int64
		x.Move(func(object int64) int64 {
			asked = append(asked, object)
			return to(object)
		})
		sameList(t, name, asked, -9, 8, 70, 71)
	}
	x := monitor.New()
	for _, object := range []int64{5, math.MaxInt64, -3, math.MinInt64, 1, -1} {
		enters(x, object, 1)
	}
	call{"Exit", 1, 1}.of(x)
	var asked []int64
	x.Move(func(object int64) int64 {
		asked = append(asked, object)
		return object
	})
	sameList(t, "from the least to the greatest", asked, math.MinInt64, -3, -1, 5, math.MaxInt64)
}

// P17.4: from then on all calls find the monitors where they are, and those
// that were forgotten are free.
func TestCallsBehindMove(t *testing.T) {
	x := some(t)
	moves(x, map[int64]int64{8: -1, 71: 8, -9: 0})
	same(t, "Exit where it was", call{"Exit", 1, 8}.of(x), "0 16")
	same(t, "Exit", call{"Exit", 1, -1}.of(x), "0 0")
	same(t, "NotifyAll", call{"NotifyAll", 1, -1}.of(x), "2 0")
	same(t, "the last Exit", call{"Exit", 1, -1}.of(x), "2 0")
	same(t, "Exit of who was let in", call{"Exit", 2, -1}.of(x), "3 0")
	same(t, "all", look(x), "-1: 3 3 [4] []; 8: 0 0 [] [7]; 70: 5 1 [] []; 4 7 ")
	same(t, "Exit where all are forgotten", call{"Exit", 5, -9}.of(x), "0 16")
	same(t, "Enter of one that stood there", call{"Enter", 6, -9}.of(x), "true 0")
	same(t, "Enter where another one was", call{"Enter", 6, 8}.of(x), "true 0")
	same(t, "at 8", at(x, 8), "6 1 [] [7]")
}

// P17.4: a function that changes its mind is asked once for each.
func TestMoveByWhim(t *testing.T) {
	x := some(t)
	n := int64(100)
	x.Move(func(int64) int64 { n--; return n })
	same(t, "all", look(x), "96: 0 0 [] [7]; 97: 5 1 [] []; 98: 1 2 [2] [3 4]; 99: 5 1 [6] []; 2 3 4 6 7 ")
}

// P1: no function moves nothing; one that panics leaves all as it was.
func TestMoveByNoneAndByOneThatPanics(t *testing.T) {
	x := some(t)
	ahead := look(x)
	x.Move(nil)
	same(t, "by none", look(x), ahead)
	for stop := range int64(4) {
		func() {
			defer func() {
				same(t, "what it panics with", recover(), any(stop))
			}()
			n := int64(0)
			x.Move(func(object int64) int64 {
				if n == stop {
					panic(stop)
				}
				n++
				return (object + 5) * (n % 2) // the second one's place is 0
			})
			t.Error("it came back")
		}()
		same(t, fmt.Sprint("by one that panics at ", stop), look(x), ahead)
	}
}

// P1: a function that itself calls: whatever it does there is an end, and who
// stands is just who is told to stand.
func TestMoveByOneThatCalls(t *testing.T) {
	for name, do := range map[string]func(x *monitor.Table, object int64){
		"it asks":   func(x *monitor.Table, object int64) { look(x) },
		"it enters": func(x *monitor.Table, object int64) { enters(x, object+1000, 9, 10) },
		"it leaves": func(x *monitor.Table, object int64) {
			for _, c := range []call{{"Exit", 5, 70}, {"Exit", 1, 8}, {"Exit", 1, 8}, {"Exit", 5, -9}, {"Exit", 6, -9}} {
				c.of(x)
			}
		},
		"it moves":   func(x *monitor.Table, object int64) { x.Move(func(object int64) int64 { return object + 3 }) },
		"it forgets": func(x *monitor.Table, object int64) { x.Move(func(object int64) int64 { return 0 }) },
	} {
		x := some(t)
		asked := 0
		x.Move(func(object int64) int64 {
			asked++
			do(x, object)
			return object - 100
		})
		same(t, name+": asked", asked, 4)
		stand := map[int]bool{}
		for _, object := range x.Objects() {
			same(t, fmt.Sprint(name, ": somebody at ", object), at(x, object) != "0 0 [] []", true)
			for _, thread := range append(x.Queue(object), x.Aside(object)...) {
				stand[thread] = true
			}
		}
		for thread := range 13 {
			same(t, fmt.Sprint(name, ": Held ", thread), x.Held(thread), stand[thread])
		}
	}
}
