package safe_test

import (
	"fmt"
	"testing"

	"ballast/api"
	"ballast/safe"
)

// The chapter's examples.
func TestExamples(t *testing.T) {
	s := safe.New()
	same(t, "Add(1, 2, 3)", s.Add(1, 2, 3), 3)
	same(t, "Hold(3)", s.Hold(3), api.OK)
	same(t, "Arm()", s.Arm(), true)
	same(t, "Poll(1)", s.Poll(1), true)
	same(t, "Reached()", s.Reached(), false)
	same(t, "Poll(2)", s.Poll(2), true)
	same(t, "Reached() then", s.Reached(), true)
	same(t, "Free(3)", free(s, 3), freed{false, api.OK})
	sameList(t, "Resume()", s.Resume(), 1, 2, 3)
	same(t, "State(3)", s.State(3), api.Runs)
}

// P9.3: Arm arms it once, till Resume, and moves no thread.
func TestArm(t *testing.T) {
	s := with(t, false, api.Runs, api.Held)
	same(t, "Armed ahead", s.Armed(), false)
	same(t, "Arm", s.Arm(), true)
	same(t, "Armed", s.Armed(), true)
	same(t, "all", look(s), stand{true, false, "[1 2]", "[1]", "[]", "[2]"})
	same(t, "Arm again", s.Arm(), false)
	same(t, "Armed still", s.Armed(), true)
	same(t, "all still", look(s), stand{true, false, "[1 2]", "[1]", "[]", "[2]"})
	s.Poll(1)
	same(t, "Arm once it is reached", s.Arm(), false)
	same(t, "reached still", look(s), stand{true, true, "[1 2]", "[]", "[1]", "[2]"})
	s.Resume()
	same(t, "Armed behind Resume", s.Armed(), false)
	same(t, "Arm anew", s.Arm(), true)
	same(t, "anew", look(s), stand{true, false, "[1 2]", "[1]", "[]", "[2]"})
}

// P9.3: it is reached, if it is armed and no thread runs: in every state of
// three threads.
func TestReached(t *testing.T) {
	for _, armed := range []bool{false, true} {
		for _, a := range reachable(armed) {
			for _, b := range reachable(armed) {
				for _, c := range reachable(armed) {
					s := with(t, armed, a, b, c)
					runs := a == api.Runs || b == api.Runs || c == api.Runs
					same(t, fmt.Sprint(armed, a, b, c), s.Reached(), armed && !runs)
				}
			}
		}
	}
}

// P9.3: ahead of Arm it isn't reached, though nobody runs.
func TestReachedAheadOfArm(t *testing.T) {
	same(t, "no threads", safe.New().Reached(), false)
	same(t, "all held", with(t, false, api.Held, api.Held).Reached(), false)
	s := with(t, false, api.Runs)
	s.End(1)
	same(t, "all ended", s.Reached(), false)
	s.Arm()
	same(t, "armed then", s.Reached(), true)
}

// P9.3: the last one that runs parks, is held, or ends: it is reached.
func TestReachedByTheLast(t *testing.T) {
	for name, last := range map[string]func(s *safe.Safe){
		"Poll": func(s *safe.Safe) { s.Poll(1) },
		"Hold": func(s *safe.Safe) { s.Hold(1) },
		"End":  func(s *safe.Safe) { s.End(1) },
	} {
		for _, others := range [][]int{nil, {api.Parked}, {api.Held}, {api.Parked, api.Held}} {
			s := with(t, true, append([]int{api.Runs}, others...)...)
			same(t, name+": one runs", s.Reached(), false)
			last(s)
			same(t, name+": none runs", s.Reached(), true)
			same(t, name+": again", s.Reached(), true)
			same(t, name+": armed", s.Armed(), true)
		}
	}
}

// P9.3: Resume where it isn't reached tells nothing and changes nothing.
func TestResumeTooEarly(t *testing.T) {
	for _, armed := range []bool{false, true} {
		for _, a := range reachable(armed) {
			for _, b := range reachable(armed) {
				s := with(t, armed, a, b, api.Runs)
				ahead := look(s)
				sameList(t, fmt.Sprint("Resume: ", armed, a, b), s.Resume())
				same(t, fmt.Sprint("all: ", armed, a, b), look(s), ahead)
			}
		}
	}
	s := with(t, false, api.Held)
	sameList(t, "Resume of one that isn't armed", s.Resume())
	same(t, "all", look(s), stand{false, false, "[1]", "[]", "[]", "[1]"})
}

// P9.3: Resume has those run that were parked, tells them, rising, and leaves
// the held ones held; it isn't armed any more.
func TestResume(t *testing.T) {
	s := with(t, true, api.Parked, api.Held, api.Parked, 0, api.Held, api.Parked)
	s.Add(-7, 40, 11)
	sameList(t, "Resume()", s.Resume(), -7, 1, 3, 6, 11, 40)
	same(t, "all", look(s), stand{false, false, "[-7 1 2 3 5 6 11 40]", "[-7 1 3 6 11 40]", "[]", "[2 5]"})
	sameList(t, "Resume() again", s.Resume())
	same(t, "all again", look(s), stand{false, false, "[-7 1 2 3 5 6 11 40]", "[-7 1 3 6 11 40]", "[]", "[2 5]"})
}

// P9.3: with none parked Resume tells nothing, and it isn't armed any more.
func TestResumeOfNone(t *testing.T) {
	s := with(t, true)
	sameList(t, "no threads", s.Resume())
	same(t, "Armed", s.Armed(), false)
	same(t, "Add(1)", s.Add(1), 1)
	same(t, "State(1)", s.State(1), api.Runs)
	s = with(t, true, api.Held, api.Held)
	sameList(t, "all held", s.Resume())
	same(t, "all", look(s), stand{false, false, "[1 2]", "[]", "[]", "[1 2]"})
}

// P9.3: who was parked and has ended doesn't come back by Resume.
func TestResumeWithoutTheEnded(t *testing.T) {
	s := with(t, true, api.Parked, api.Parked, api.Parked)
	s.End(2)
	sameList(t, "Resume()", s.Resume(), 1, 3)
	same(t, "State(2)", s.State(2), 0)
	sameList(t, "In()", s.In(), 1, 3)
}

// P9.3: one safepoint behind the other, each with those of its own.
func TestSafepointsInARow(t *testing.T) {
	s := safe.New()
	for n := 1; n <= 20; n++ {
		s.Add(n)
		same(t, "Arm", s.Arm(), true)
		for thread := 1; thread <= n; thread++ {
			same(t, "Reached", s.Reached(), false)
			same(t, "Poll", s.Poll(thread), true)
		}
		same(t, "Reached at last", s.Reached(), true)
		told := s.Resume()
		same(t, "how many", len(told), n)
		same(t, "the last one", told[n-1], n)
	}
}

// R3: what Resume told is its owner's, and doesn't change later.
func TestResumeIsItsOwners(t *testing.T) {
	s := with(t, true, api.Parked, api.Parked, api.Held)
	told := s.Resume()
	s.End(1)
	s.Hold(2)
	s.Add(9)
	sameList(t, "what was told", told, 1, 2)
	clear(told[:cap(told)])
	same(t, "all", look(s), stand{false, false, "[2 3 9]", "[9]", "[]", "[2 3]"})
	s.Arm()
	s.Poll(9)
	sameList(t, "Resume() anew", s.Resume(), 9)
	sameList(t, "what its owner wrote", told, 0, 0)
}
