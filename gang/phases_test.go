package gang_test

import (
	"fmt"
	"math"
	"slices"
	"testing"

	"ballast/api"
	"ballast/gang"
)

func same[T comparable](t *testing.T, what string, got, want T) {
	t.Helper()
	if got != want {
		t.Errorf("%s: %v, want %v", what, got, want)
	}
}

func sameList[T comparable](t *testing.T, what string, got []T, want ...T) {
	t.Helper()
	if !slices.Equal(got, want) {
		t.Errorf("%s: %v, want %v", what, got, want)
	}
}

// made is a gang of so many.
func made(t *testing.T, workers int) *gang.Gang {
	t.Helper()
	g, errno := gang.New(workers)
	if g == nil || errno != api.OK {
		t.Fatalf("New(%d): %v, %v", workers, g, errno)
	}
	return g
}

// came is what Arrive tells.
type came struct {
	last  bool
	errno api.Errno
}

func arrive(g *gang.Gang, worker int) came {
	last, errno := g.Arrive(worker)
	return came{last, errno}
}

// arriveAll has them come one behind the other, none of them the last one.
func arriveAll(t *testing.T, g *gang.Gang, workers ...int) {
	t.Helper()
	for _, worker := range workers {
		same(t, fmt.Sprint("Arrive(", worker, ")"), arrive(g, worker), came{false, api.OK})
	}
}

// stand is all that can be asked of a gang: whoever goes of the numbers around
// those that may be.
type stand struct {
	phase       int
	waits, goes string
}

func look(g *gang.Gang) stand {
	var goes []int
	for worker := -3; worker < 70; worker++ {
		if g.Goes(worker) {
			goes = append(goes, worker)
		}
	}
	return stand{g.Phase(), fmt.Sprint(g.Waits()), fmt.Sprint(goes)}
}

// below are the numbers from 0 on.
func below(n int) []int {
	var l []int
	for i := range n {
		l = append(l, i)
	}
	return l
}

// far are numbers that are no worker's, and at the ends of an int.
func far() []int {
	return []int{math.MinInt, math.MinInt + 1, -1 << 40, -1 << 32, -257, -65, -64, -1, 64, 65, 256, 1 << 32, 1 << 40, math.MaxInt - 1, math.MaxInt}
}

// P10.1: workers are from 1 to 64.
func TestNewOfWorkers(t *testing.T) {
	for workers := -5; workers <= 70; workers++ {
		may := workers >= 1 && workers <= 64
		g, errno := gang.New(workers)
		same(t, fmt.Sprint(workers, " workers: is made"), g != nil, may)
		if !may {
			same(t, fmt.Sprint(workers, " workers"), errno, api.ErrArg)
			continue
		}
		same(t, fmt.Sprint(workers, " workers"), errno, api.OK)
		same(t, fmt.Sprint(workers, " workers"), look(g), stand{0, "[]", fmt.Sprint(below(workers))})
	}
}

// P10.1, P1: numbers that are far from all that may be.
func TestNewFar(t *testing.T) {
	for _, workers := range append(far(), 0, -2, 128, 1<<32+1, 1<<32+64, -1<<32+1, math.MinInt+1, math.MinInt+64) {
		if workers == 64 {
			continue
		}
		g, errno := gang.New(workers)
		if g != nil || errno != api.ErrArg {
			t.Errorf("New(%d): %v, %v", workers, g, errno)
		}
	}
}

// P10.1: the chapter's example.
func TestArriveOfTwo(t *testing.T) {
	g := made(t, 2)
	same(t, "Arrive(1)", arrive(g, 1), came{false, api.OK})
	same(t, "Arrive(1) again", arrive(g, 1), came{false, api.ErrState})
	same(t, "Goes(0)", g.Goes(0), true)
	same(t, "Arrive(0)", arrive(g, 0), came{true, api.OK})
	same(t, "Phase", g.Phase(), 1)
	same(t, "Goes(1)", g.Goes(1), true)
}

// P10.1: how all stand ahead of, within and behind a phase, and in the next
// one, which comes in another order.
func TestPhases(t *testing.T) {
	g := made(t, 4)
	for _, x := range []struct {
		worker int
		want   came
		stand  stand
	}{
		{2, came{false, api.OK}, stand{0, "[2]", "[0 1 3]"}},
		{0, came{false, api.OK}, stand{0, "[0 2]", "[1 3]"}},
		{3, came{false, api.OK}, stand{0, "[0 2 3]", "[1]"}},
		{1, came{true, api.OK}, stand{1, "[]", "[0 1 2 3]"}},
		{1, came{false, api.OK}, stand{1, "[1]", "[0 2 3]"}},
		{3, came{false, api.OK}, stand{1, "[1 3]", "[0 2]"}},
		{2, came{false, api.OK}, stand{1, "[1 2 3]", "[0]"}},
		{0, came{true, api.OK}, stand{2, "[]", "[0 1 2 3]"}},
		{0, came{false, api.OK}, stand{2, "[0]", "[1 2 3]"}},
	} {
		same(t, fmt.Sprint("Arrive(", x.worker, ")"), arrive(g, x.worker), x.want)
		same(t, fmt.Sprint("behind Arrive(", x.worker, ")"), look(g), x.stand)
	}
}

// P10.1, R2: Arrive of a worker that isn't there changes nothing.
func TestArriveOfNone(t *testing.T) {
	for _, workers := range []int{1, 2, 5, 63} {
		g := made(t, workers)
		for ahead := range workers {
			stood := look(g)
			for _, worker := range append(far(), workers, workers+1, 1<<32+1, 1<<32) {
				same(t, fmt.Sprint(workers, " workers: Arrive(", worker, ")"), arrive(g, worker), came{false, api.ErrTask})
				same(t, fmt.Sprint(workers, " workers: Goes(", worker, ")"), g.Goes(worker), false)
			}
			same(t, fmt.Sprint(workers, " workers, ", ahead, " arrived"), look(g), stood)
			g.Arrive(ahead)
		}
	}
}

// P10.1: the last worker that may be is the 63rd behind 0.
func TestMostWorkers(t *testing.T) {
	g := made(t, 64)
	same(t, "Arrive(64)", arrive(g, 64), came{false, api.ErrTask})
	for worker := 63; worker > 0; worker-- {
		same(t, fmt.Sprint("Goes(", worker, ")"), g.Goes(worker), true)
		same(t, fmt.Sprint("Arrive(", worker, ")"), arrive(g, worker), came{false, api.OK})
		same(t, fmt.Sprint("Goes(", worker, ") behind it"), g.Goes(worker), false)
		sameList(t, "Waits", g.Waits(), below(64)[worker:]...)
	}
	same(t, "Phase", g.Phase(), 0)
	same(t, "Arrive(0)", arrive(g, 0), came{true, api.OK})
	same(t, "behind it", look(g), stand{1, "[]", fmt.Sprint(below(64))})
}

// P10.1, R2: Arrive of one that has arrived changes nothing; in the next phase
// it may come again.
func TestArriveTwice(t *testing.T) {
	g := made(t, 3)
	arriveAll(t, g, 1, 2)
	stood := look(g)
	for range 3 {
		for _, worker := range []int{1, 2} {
			same(t, fmt.Sprint("Arrive(", worker, ") again"), arrive(g, worker), came{false, api.ErrState})
			same(t, "nothing is changed", look(g), stood)
		}
	}
	same(t, "Arrive(0)", arrive(g, 0), came{true, api.OK})
	arriveAll(t, g, 2, 0)
	same(t, "Arrive(2) again", arrive(g, 2), came{false, api.ErrState})
	same(t, "Arrive(0) again", arrive(g, 0), came{false, api.ErrState})
	same(t, "in the next phase", look(g), stand{1, "[0 2]", "[1]"})
	same(t, "Arrive(1)", arrive(g, 1), came{true, api.OK})
	same(t, "behind it", look(g), stand{2, "[]", "[0 1 2]"})
}

// P10.1: the last one of a phase is free to come first in the next one.
func TestLastComesFirst(t *testing.T) {
	g := made(t, 2)
	for phase := range 100 {
		first := phase % 2
		same(t, "the first one", arrive(g, first), came{false, api.OK})
		same(t, "the first one again", arrive(g, first), came{false, api.ErrState})
		same(t, "the last one", arrive(g, 1-first), came{true, api.OK})
		same(t, "Phase", g.Phase(), phase+1)
	}
}

// P10.1: one worker alone is the last one each time, and never waits.
func TestOneWorker(t *testing.T) {
	g := made(t, 1)
	for phase := range 200 {
		same(t, "ahead", look(g), stand{phase, "[]", "[0]"})
		same(t, "Arrive(1)", arrive(g, 1), came{false, api.ErrTask})
		same(t, "Arrive(-1)", arrive(g, -1), came{false, api.ErrTask})
		same(t, "Arrive(0)", arrive(g, 0), came{true, api.OK})
	}
	same(t, "behind", look(g), stand{200, "[]", "[0]"})
}

// P10.1: gangs are nothing to each other.
func TestGangsApart(t *testing.T) {
	g, h := made(t, 3), made(t, 3)
	arriveAll(t, g, 2, 1)
	same(t, "the other one", look(h), stand{0, "[]", "[0 1 2]"})
	arriveAll(t, h, 0)
	g.Arrive(0)
	same(t, "the first one", look(g), stand{1, "[]", "[0 1 2]"})
	same(t, "the other one", look(h), stand{0, "[0]", "[1 2]"})
}

// P10.1: asking changes nothing.
func TestAskingChangesNothing(t *testing.T) {
	g := made(t, 5)
	arriveAll(t, g, 4, 0, 3)
	for range 5 {
		same(t, "all", look(g), stand{0, "[0 3 4]", "[1 2]"})
	}
	arriveAll(t, g, 2)
	same(t, "all", look(g), stand{0, "[0 2 3 4]", "[1]"})
	same(t, "Arrive(1)", arrive(g, 1), came{true, api.OK})
}

// R3: what Waits tells is its caller's: whatever is done to it, or put behind
// it, and whatever comes later.
func TestWaitsIsTheCallers(t *testing.T) {
	g := made(t, 6)
	arriveAll(t, g, 5, 1, 3)
	told, kept := g.Waits(), g.Waits()
	for i := range told {
		told[i] = 0
	}
	_ = append(told[:1], 7, 8, 9)
	_ = append(told, 2, 2, 2, 2)
	same(t, "behind it", look(g), stand{0, "[1 3 5]", "[0 2 4]"})
	arriveAll(t, g, 4, 0)
	sameList(t, "what was told", kept, 1, 3, 5)
	same(t, "Arrive(2)", arrive(g, 2), came{true, api.OK})
	arriveAll(t, g, 0, 2)
	sameList(t, "what was told", kept, 1, 3, 5)
	same(t, "in the next phase", look(g), stand{1, "[0 2]", "[1 3 4 5]"})
}

// Below P10.3: a nil gang is none, at each call.
func TestNilGang(t *testing.T) {
	var g *gang.Gang
	for range 2 {
		for _, worker := range append(far(), 0, 1, 2, 63) {
			same(t, "Arrive", arrive(g, worker), came{false, api.ErrArg})
			same(t, "Goes", g.Goes(worker), false)
		}
		same(t, "Phase", g.Phase(), 0)
		same(t, "Waits", len(g.Waits()), 0)
	}
}

// Below P10.3: a zero gang has no workers, at each call.
func TestZeroGang(t *testing.T) {
	for _, g := range []*gang.Gang{{}, new(gang.Gang)} {
		for range 2 {
			for _, worker := range append(far(), 0, 1, 2, 63) {
				same(t, "Arrive", arrive(g, worker), came{false, api.ErrTask})
				same(t, "Goes", g.Goes(worker), false)
			}
			same(t, "Phase", g.Phase(), 0)
			same(t, "Waits", len(g.Waits()), 0)
		}
	}
}
