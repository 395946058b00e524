package turns_test

import (
	"math"
	"slices"
	"testing"

	"ballast/api"
	"ballast/turns"
)

// P2.2: the chapter's examples.
func TestPicksOfTheExamples(t *testing.T) {
	x := with(t, telling(0, 1, 2), telling(0, 1, 2))
	same(t, "Pick(5)", pick(x, 5), picked{2, true})
	same(t, "Pick(5) again", pick(x, 5), picked{2, true})
	same(t, "Pick(5) once 2 waits", pick(x, 5), picked{1, true})
	sameList(t, "Ready", x.Ready(), 1)
	same(t, "Wake(2, 9)", x.Wake(2, 9), 1)
	same(t, "Pick(1)", pick(x, 1), picked{2, true})
	same(t, "State(2)", x.State(2), api.End)
	same(t, "Add(nil)", add(x, nil), added{0, api.ErrArg})
}

// P2.2: a pick p of n is the one at p modulo n; below 0 it counts as -(p + 1).
func TestPickOfThree(t *testing.T) {
	for _, k := range []struct{ pick, want int }{
		{0, 1}, {1, 2}, {2, 3}, {3, 1}, {4, 2}, {5, 3}, {300, 1},
		{-1, 1}, {-2, 2}, {-3, 3}, {-4, 1}, {-5, 2}, {-300, 3},
		{math.MaxInt, 1 + math.MaxInt%3}, {math.MinInt, 1 + math.MaxInt%3},
		{math.MaxInt - 1, 1 + (math.MaxInt-1)%3}, {math.MinInt + 1, 1 + (math.MaxInt-1)%3},
	} {
		x := with(t, goes, goes, goes)
		same(t, "Pick", pick(x, k.pick), picked{k.want, true})
		same(t, "Steps", x.Steps(k.want), 1)
		same(t, "all steps", x.Steps(1)+x.Steps(2)+x.Steps(3), 1)
	}
}

// P2.2: a pick counts the ready ones alone, by rising numbers, even where some
// of them were woken later than others.
func TestPickAmongTheReady(t *testing.T) {
	x := with(t, telling(1), telling(2), goes, telling(1, 0, 0), goes)
	for _, want := range []int{1, 2, 3} {
		same(t, "Pick(0)", pick(x, 0), picked{want, true})
	}
	same(t, "Pick(1)", pick(x, 1), picked{4, true})
	sameList(t, "Ready", x.Ready(), 3, 5)
	same(t, "Pick(1) of 3, 5", pick(x, 1), picked{5, true})
	same(t, "Pick(2) of 3, 5", pick(x, 2), picked{3, true})
	same(t, "Pick(-2) of 3, 5", pick(x, -2), picked{5, true})
	same(t, "Wake(4)", x.Wake(4), 1)
	sameList(t, "Ready with 4", x.Ready(), 3, 4, 5)
	same(t, "Pick(1) of 3, 4, 5", pick(x, 1), picked{4, true})
	same(t, "Wake(1)", x.Wake(1), 1)
	sameList(t, "Ready with 1", x.Ready(), 1, 3, 4, 5)
	same(t, "Pick(4) of 1, 3, 4, 5", pick(x, 4), picked{1, true})
}

// P2.2: one pick is one step of one task.
func TestPickIsOneStep(t *testing.T) {
	a, b := &walker{tells: []int{0, 0, 0}}, &walker{tells: []int{0, 0, 0}}
	x := with(t, a.step, b.step)
	for i, p := range []int{0, 0, 1} {
		x.Pick(p)
		same(t, "steps in all", a.taken+b.taken, i+1)
	}
	same(t, "steps of 1", a.taken, 2)
	same(t, "steps of 2", b.taken, 1)
	sameList(t, "Steps", steps(x, 2), 2, 1)
}

// P2.2: 0 and false with none ready, and nothing is done.
func TestPickOfNone(t *testing.T) {
	w := &walker{tells: []int{1}}
	x := with(t, w.step, telling(2))
	x.Pick(0)
	x.Pick(0)
	sameList(t, "State", states(x, 2), api.Wait, api.End)
	for _, p := range []int{0, 1, 7, -1, math.MinInt, math.MaxInt} {
		same(t, "Pick", pick(x, p), picked{})
	}
	same(t, "steps that were taken", w.taken, 1)
	sameList(t, "Steps", steps(x, 2), 1, 1)
	sameList(t, "State behind it", states(x, 2), api.Wait, api.End)
}

// P2.2: the state is what the step tells, step by step.
func TestTaskStandsAsItsStepTells(t *testing.T) {
	x := with(t, telling(0, 1, 0, 1, 2))
	for _, want := range []int{api.Go, api.Wait, api.Go, api.Wait, api.End} {
		x.Wake(1)
		same(t, "Pick", pick(x, 0), picked{1, true})
		same(t, "State", x.State(1), want)
	}
	same(t, "Pick behind its end", pick(x, 0), picked{})
}

// P2.2: Wake wakes those that wait, each once, and tells how many.
func TestWake(t *testing.T) {
	x := with(t, telling(1), telling(1), telling(1), telling(2), goes)
	for range 4 {
		x.Pick(0)
	}
	sameList(t, "State", states(x, 5), 1, 1, 1, 2, 0)
	same(t, "Wake()", x.Wake(), 0)
	same(t, "Wake of one that has ended", x.Wake(4), 0)
	same(t, "Wake of one that goes", x.Wake(5), 0)
	same(t, "Wake of tasks that aren't there", x.Wake(0, -1, 6, 129, math.MinInt, math.MaxInt), 0)
	sameList(t, "State behind nothing", states(x, 5), 1, 1, 1, 2, 0)
	same(t, "Wake of one twice", x.Wake(2, 2), 1)
	sameList(t, "State with 2", states(x, 5), 1, 0, 1, 2, 0)
	same(t, "Wake of it again", x.Wake(2), 0)
	same(t, "Wake of all, and of others", x.Wake(9, 3, 5, 4, 1, 3, 0, 2), 2)
	sameList(t, "State with all", states(x, 5), 0, 0, 0, 2, 0)
	sameList(t, "Steps", steps(x, 5), 1, 1, 1, 1, 0)
}

// R3: the list that Wake is handed stays as it is.
func TestWakeLeavesItsList(t *testing.T) {
	x := with(t, telling(1), telling(1))
	x.Run(2)
	l := []int{2, 2, 7, 1}
	same(t, "Wake", x.Wake(l...), 2)
	sameList(t, "the list", l, 2, 2, 7, 1)
}

// P2.2: a step may add tasks; they are there at once, and are picked later.
func TestStepAddsTasks(t *testing.T) {
	var x *turns.Turns
	var inside []added
	grow := func() int {
		for range 40 {
			inside = append(inside, add(x, telling(0, 2)))
		}
		sameList(t, "State inside", []int{x.State(1), x.State(2), x.State(41)}, 0, 0, 0)
		return api.Wait
	}
	x = with(t, grow)
	same(t, "Pick(0)", pick(x, 0), picked{1, true})
	for i, a := range inside {
		same(t, "Add inside", a, added{i + 2, api.OK})
	}
	same(t, "State(1)", x.State(1), api.Wait)
	same(t, "Steps(1)", x.Steps(1), 1)
	same(t, "Ready", len(x.Ready()), 40)
	same(t, "Pick(39)", pick(x, 39), picked{41, true})
	same(t, "Steps(41)", x.Steps(41), 1)
}

// P2.1, P2.2: a step that adds tasks has no more room than others.
func TestStepAddsTillFull(t *testing.T) {
	var x *turns.Turns
	var last added
	x = with(t, func() int {
		for range 128 {
			last = add(x, goes)
		}
		return api.End
	})
	x.Pick(0)
	same(t, "the last Add", last, added{0, api.ErrFull})
	same(t, "Ready", len(x.Ready()), 127)
	same(t, "State(128)", x.State(128), api.Go)
	same(t, "State(129)", x.State(129), -1)
}

// P2.2: a step may wake others.
func TestStepWakesOthers(t *testing.T) {
	var x *turns.Turns
	woken := -1
	x = with(t, telling(1, 2), telling(1, 2), func() int {
		woken = x.Wake(1, 2, 9)
		sameList(t, "Ready inside", x.Ready(), 1, 2, 3)
		return api.End
	})
	same(t, "Run", x.Run(3, 0, 0, 0), 3)
	same(t, "Wake inside", woken, 2)
	sameList(t, "State", states(x, 3), api.Go, api.Go, api.End)
}

// P2.2: what a step wakes of itself counts for nothing: it stands as it tells.
func TestStepWakesItself(t *testing.T) {
	for _, tells := range []int{api.Go, api.Wait, api.End} {
		var x *turns.Turns
		woken := -1
		x = with(t, func() int {
			woken = x.Wake(1, 1)
			return tells
		})
		same(t, "Pick", pick(x, 0), picked{1, true})
		same(t, "Wake inside", woken, 0)
		same(t, "State", x.State(1), tells)
		same(t, "Stuck", x.Stuck(), tells == api.Wait)
	}
}

// P2.2: the same of a step behind a time of waiting.
func TestStepWakesItselfLater(t *testing.T) {
	var x *turns.Turns
	var woken []int
	x = with(t, func() int {
		woken = append(woken, x.Wake(1))
		return api.Wait
	})
	x.Pick(0)
	same(t, "Wake from without", x.Wake(1), 1)
	x.Pick(0)
	sameList(t, "Wake inside", woken, 0, 0)
	same(t, "State", x.State(1), api.Wait)
	same(t, "Pick", pick(x, 0), picked{})
}

// P1: a step that panics does so by itself; the tasks stand as they did.
func TestStepPanics(t *testing.T) {
	x := with(t, func() int { panic("by itself") }, telling(1))
	func() {
		defer func() { same(t, "recovered", recover(), any("by itself")) }()
		x.Pick(0)
	}()
	sameList(t, "State", states(x, 2), api.Go, api.Go)
	same(t, "Pick(1)", pick(x, 1), picked{2, true})
	sameList(t, "Ready", x.Ready(), 1)
}

// R3: what Ready told is its owner's, and doesn't change later.
func TestReadyIsItsOwners(t *testing.T) {
	x := with(t, telling(1), goes, goes)
	before := x.Ready()
	x.Pick(0)
	sameList(t, "what was told ahead", before, 1, 2, 3)
	behind := x.Ready()
	clear(behind[:cap(behind)])
	sameList(t, "Ready", x.Ready(), 2, 3)
	same(t, "Pick(1)", pick(x, 1), picked{3, true})
	if grown := append(x.Ready(), 9); !slices.Equal(grown, []int{2, 3, 9}) {
		t.Errorf("Ready and 9: %v", grown)
	}
	sameList(t, "Ready again", x.Ready(), 2, 3)
}
