package safe_test

import (
	"fmt"
	"math"
	"testing"

	"ballast/api"
	"ballast/safe"
)

// freed is what Free tells.
type freed struct {
	runs  bool
	errno api.Errno
}

func free(s *safe.Safe, thread int) freed {
	runs, errno := s.Free(thread)
	return freed{runs, errno}
}

// one is a thread that stands so, at a safepoint that is armed or not.
type one struct {
	armed bool
	state int
}

// each has every such one, with other threads beside it that must stay as they
// are.
func each(t *testing.T, do func(what string, k one, s *safe.Safe)) {
	t.Helper()
	for _, armed := range []bool{false, true} {
		for _, state := range reachable(armed) {
			s := with(t, armed, state, api.Runs, api.Held, api.Runs)
			do(fmt.Sprintf("armed %v, state %d", armed, state), one{armed, state}, s)
			if s.Armed() != armed {
				t.Errorf("armed %v, state %d: armed is %v behind it", armed, state, s.Armed())
			}
			sameList(t, "the others", []int{s.State(2), s.State(3), s.State(4)}, api.Runs, api.Held, api.Runs)
		}
	}
}

// P9.2: Poll parks a thread that runs, if it is armed, and nobody else.
func TestPoll(t *testing.T) {
	each(t, func(what string, k one, s *safe.Safe) {
		want, told := k.state, false
		if k.armed && k.state == api.Runs {
			want, told = api.Parked, true
		}
		same(t, what+": Poll", s.Poll(1), told)
		same(t, what+": State", s.State(1), want)
		same(t, what+": Poll again", s.Poll(1), false)
		same(t, what+": State again", s.State(1), want)
	})
}

// P9.2: Hold has a thread wait that runs, armed or not.
func TestHold(t *testing.T) {
	each(t, func(what string, k one, s *safe.Safe) {
		want, told := k.state, api.ErrState
		switch k.state {
		case 0:
			told = api.ErrTask
		case api.Runs:
			want, told = api.Held, api.OK
		}
		same(t, what+": Hold", s.Hold(1), told)
		same(t, what+": State", s.State(1), want)
		if k.state != 0 {
			same(t, what+": Hold again", s.Hold(1), api.ErrState)
			same(t, what+": State again", s.State(1), want)
		}
	})
}

// P9.2: Free has a thread go on that is held: it runs, or is parked.
func TestFree(t *testing.T) {
	each(t, func(what string, k one, s *safe.Safe) {
		want, told := k.state, freed{false, api.ErrState}
		switch {
		case k.state == 0:
			told = freed{false, api.ErrTask}
		case k.state == api.Held && k.armed:
			want, told = api.Parked, freed{false, api.OK}
		case k.state == api.Held:
			want, told = api.Runs, freed{true, api.OK}
		}
		same(t, what+": Free", free(s, 1), told)
		same(t, what+": State", s.State(1), want)
		if k.state != 0 {
			same(t, what+": Free again", free(s, 1), freed{false, api.ErrState})
			same(t, what+": State again", s.State(1), want)
		}
	})
}

// P9.2: of a thread that isn't there nothing is done, and it doesn't come.
func TestNoSuchThread(t *testing.T) {
	for _, armed := range []bool{false, true} {
		s := with(t, armed, api.Runs, api.Held)
		ahead := look(s)
		for _, thread := range []int{0, 3, -1, -2, math.MinInt, math.MaxInt, 1 << 32, 1<<32 + 1} {
			same(t, "Poll", s.Poll(thread), false)
			same(t, "Hold", s.Hold(thread), api.ErrTask)
			same(t, "Free", free(s, thread), freed{false, api.ErrTask})
			same(t, "State", s.State(thread), 0)
		}
		same(t, "all", look(s), ahead)
	}
}

// P9.2: one that is held stays so through a safepoint, and goes on behind it.
func TestHeldThroughASafepoint(t *testing.T) {
	s := with(t, false, api.Held, api.Runs)
	s.Arm()
	same(t, "Poll of one that is held", s.Poll(1), false)
	same(t, "Poll(2)", s.Poll(2), true)
	sameList(t, "Resume()", s.Resume(), 2)
	same(t, "State(1)", s.State(1), api.Held)
	same(t, "Free(1)", free(s, 1), freed{true, api.OK})
	same(t, "State(1) then", s.State(1), api.Runs)
}

// P9.2: one that is freed at an armed safepoint goes on by Resume.
func TestFreedAtASafepoint(t *testing.T) {
	s := with(t, true, api.Held, api.Held)
	same(t, "Free(1)", free(s, 1), freed{false, api.OK})
	same(t, "Hold of one that is parked", s.Hold(1), api.ErrState)
	same(t, "Free of one that is parked", free(s, 1), freed{false, api.ErrState})
	sameList(t, "Resume()", s.Resume(), 1)
	same(t, "all", look(s), stand{false, false, "[1 2]", "[1]", "[]", "[2]"})
	same(t, "Hold(1)", s.Hold(1), api.OK)
}

// P9.2: polls of one that runs count for nothing till it is armed.
func TestPollAheadOfArm(t *testing.T) {
	s := with(t, false, api.Runs)
	same(t, "Poll", s.Poll(1), false)
	s.Arm()
	same(t, "State", s.State(1), api.Runs)
	same(t, "Reached", s.Reached(), false)
	same(t, "Poll then", s.Poll(1), true)
	s.Resume()
	same(t, "Poll behind Resume", s.Poll(1), false)
	same(t, "State behind Resume", s.State(1), api.Runs)
}
