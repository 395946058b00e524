package gang_test

import (
	"fmt"
	"math/rand"
	"slices"
	"sync"
	"testing"

	"ballast/api"
	"ballast/cells"
	"ballast/gang"
)

// every does a play once for each order in which n things may be picked so
// many times.
func every(n, picks int, play func(order []int)) {
	order := make([]int, picks)
	for {
		play(order)
		at := picks - 1
		for ; at >= 0 && order[at] == n-1; at-- {
			order[at] = 0
		}
		if at < 0 {
			return
		}
		order[at]++
	}
}

// account is a plain account of a gang: how often each worker has arrived.
type account []int

// arrive is the chapter's promise, word by word: who has arrived is one ahead
// of the phase, which all have ended.
func (a account) arrive(worker int) came {
	switch {
	case worker < 0 || worker >= len(a):
		return came{false, api.ErrTask}
	case a[worker] > a.phase():
		return came{false, api.ErrState}
	}
	phase := a.phase()
	a[worker]++
	return came{a.phase() > phase, api.OK}
}

func (a account) phase() int { return slices.Min(a) }

func (a account) look() stand {
	var waits, goes []int
	for worker, times := range a {
		if times > a.phase() {
			waits = append(waits, worker)
		} else {
			goes = append(goes, worker)
		}
	}
	return stand{a.phase(), fmt.Sprint(waits), fmt.Sprint(goes)}
}

// together fails where some one has arrived more often than another one, by
// more than once.
func (a account) together(t *testing.T, what string) {
	t.Helper()
	if slices.Max(a)-slices.Min(a) > 1 {
		t.Fatalf("%s: arrived %v times", what, []int(a))
	}
}

// P10.1, P10.3: every order of arrivals in small gangs, those of two that
// aren't there among them.
func TestEveryOrderOfArrivals(t *testing.T) {
	for workers := 1; workers <= 4; workers++ {
		every(workers+2, 7, func(order []int) {
			g, a := made(t, workers), make(account, workers)
			for n, pick := range order {
				got, want := arrive(g, pick-1), a.arrive(pick-1)
				if got != want {
					t.Fatalf("%d workers, %v: %v, want %v", workers, order[:n+1], got, want)
				}
			}
			if got, want := look(g), a.look(); got != want {
				t.Fatalf("%d workers, %v: %v, want %v", workers, order, got, want)
			}
		})
	}
}

// P10.3, R4: long orders in gangs of any size: how often two have arrived, by
// what they were told, is never further apart than 1, and each phase tells
// true to its last one alone; the same calls have the same answers.
func TestManyOrdersOfArrivals(t *testing.T) {
	for seed := range int64(128) {
		r := rand.New(rand.NewSource(seed))
		workers := 1 + int(seed)%64
		g, again, a := made(t, workers), made(t, workers), make(account, workers)
		times, lasts := make(account, workers), 0
		for n := range 40 * workers {
			what := fmt.Sprint("seed ", seed, ", call ", n)
			worker := r.Intn(workers+2) - 1
			got, twin, want := arrive(g, worker), arrive(again, worker), a.arrive(worker)
			if got != want || twin != want {
				t.Fatalf("%s: Arrive(%d): %v, %v, want %v", what, worker, got, twin, want)
			}
			if r.Intn(10) == 0 && (look(g) != a.look() || look(again) != a.look()) {
				t.Fatalf("%s: %v, %v, want %v", what, look(g), look(again), a.look())
			}
			if got.errno == api.OK {
				times[worker]++
			}
			if got.last {
				lasts++
				same(t, what+": all have ended the phase", slices.Min(times), slices.Max(times))
			}
			times.together(t, what)
			same(t, what+": told true", lasts, times.phase())
		}
	}
}

// P10.3: each phase in an order of its own: the last one alone is told true,
// and nobody else goes on ahead of it.
func TestEachPhaseInAnOrder(t *testing.T) {
	for seed := range int64(60) {
		r := rand.New(rand.NewSource(seed))
		workers := 1 + r.Intn(64)
		g := made(t, workers)
		for phase := range 8 {
			order := r.Perm(workers)
			for n, worker := range order {
				what := fmt.Sprint("seed ", seed, ", phase ", phase, ", ", n)
				same(t, what, arrive(g, worker), came{n == workers-1, api.OK})
				if n == workers-1 {
					break
				}
				same(t, what+": Phase", g.Phase(), phase)
				sameList(t, what+": Waits", g.Waits(), slices.Sorted(slices.Values(order[:n+1]))...)
				early := order[r.Intn(n+1)]
				same(t, what+": too early", arrive(g, early), came{false, api.ErrState})
				same(t, what+": Goes of who waits", g.Goes(early), false)
			}
			same(t, "Phase", g.Phase(), phase+1)
		}
	}
}

// once fails where a part was taken by nobody, or more than once.
func once(t *testing.T, what string, parts int, took ...[]int) {
	t.Helper()
	if all := slices.Sorted(slices.Values(slices.Concat(took...))); !slices.Equal(all, below(parts)) {
		t.Fatalf("%s: of %d parts %v were taken", what, parts, took)
	}
}

// P10.3: every order in which three take up to six parts, and ask on: each
// part is taken once, and none is left.
func TestEveryOrderOfTaking(t *testing.T) {
	for parts := range 7 {
		every(3, 7, func(order []int) {
			s := shared(t, cells.New(1), 0, parts)
			took := make([][]int, 3)
			for n, worker := range order {
				part, ok := s.Next()
				if ok {
					took[worker] = append(took[worker], part)
				}
				if ok != (n < parts) || s.Taken() != min(n+1, parts) {
					t.Fatalf("%v of %d parts: %v at %d, %d taken", order, parts, ok, n, s.Taken())
				}
			}
			once(t, fmt.Sprint(order), parts, took...)
		})
	}
}

// P10.3: many orders of many workers, each of which stops once it is told that
// there is none.
func TestManyOrdersOfTaking(t *testing.T) {
	for seed := range int64(300) {
		r := rand.New(rand.NewSource(seed))
		parts, left := r.Intn(200), below(1+r.Intn(64))
		workers := len(left)
		c := cells.New(5)
		s := shared(t, c, r.Intn(5), parts)
		took := make([][]int, workers)
		for len(left) > 0 {
			if c.Steps() > parts+workers {
				t.Fatalf("seed %d: there are parts without an end", seed)
			}
			i := r.Intn(len(left))
			part, ok := s.Next()
			if !ok {
				left = slices.Delete(left, i, i+1)
				continue
			}
			took[left[i]] = append(took[left[i]], part)
		}
		once(t, fmt.Sprint("seed ", seed), parts, took...)
		same(t, "Taken", s.Taken(), parts)
		same(t, "accesses", c.Steps(), parts+workers)
	}
}

// P10.3, P1.3: the same at one time.
func TestTakingAtOneTime(t *testing.T) {
	for range 20 {
		const workers, parts = 16, 4000
		c := cells.New(1)
		s := shared(t, c, 0, parts)
		took := make([][]int, workers)
		var all sync.WaitGroup
		for worker := range workers {
			all.Go(func() {
				for part, ok := s.Next(); ok && len(took[worker]) < parts; part, ok = s.Next() {
					took[worker] = append(took[worker], part)
				}
			})
		}
		all.Wait()
		once(t, "at one time", parts, took...)
		same(t, "Taken", s.Taken(), parts)
		same(t, "accesses", c.Steps(), parts+workers)
	}
}

// shift are workers that take parts till there are none, and then arrive; the
// last one has the parts of the next phase be there.
type shift struct {
	g      *gang.Gang
	s      *gang.Share
	phases []int     // how many parts each one has
	took   [][][]int // by phases and workers
	times  account   // how often each one has ended a phase
}

// step is a worker's: a part, or its arrival. It tells false where it waits.
func (f *shift) step(t *testing.T, worker int) bool {
	t.Helper()
	if !f.g.Goes(worker) || f.times.phase() == len(f.phases) {
		return false
	}
	phase := f.times[worker]
	if f.times.phase() != phase || f.g.Phase() != phase {
		t.Fatalf("%d is in phase %d: %v, of %d", worker, phase, []int(f.times), f.g.Phase())
	}
	if part, ok := f.s.Next(); ok {
		f.took[phase][worker] = append(f.took[phase][worker], part)
		return true
	}
	f.times[worker]++
	last, errno := f.g.Arrive(worker)
	same(t, "Arrive", errno, api.OK)
	same(t, "the last one", last, f.times.phase() > phase)
	if last && phase+1 < len(f.phases) {
		f.s.Reset(f.phases[phase+1])
	}
	return true
}

func (f *shift) ended(t *testing.T, what string) {
	t.Helper()
	same(t, what+": Phase", f.g.Phase(), len(f.phases))
	for phase, parts := range f.phases {
		once(t, fmt.Sprint(what, ", phase ", phase), parts, f.took[phase]...)
	}
}

func begun(t *testing.T, workers int, phases ...int) *shift {
	t.Helper()
	f := &shift{made(t, workers), shared(t, cells.New(2), 1, phases[0]), phases, make([][][]int, len(phases)), make(account, workers)}
	for phase := range f.took {
		f.took[phase] = make([][]int, workers)
	}
	return f
}

// P10.3: two workers, in every order: each phase's parts are taken once, and
// by nobody who is ahead of another one.
func TestEveryOrderOfAShift(t *testing.T) {
	every(2, 11, func(order []int) {
		f := begun(t, 2, 2, 0, 3)
		for _, worker := range order {
			// Whoever waits leaves its turn to the other one.
			if !f.step(t, worker) && !f.step(t, 1-worker) {
				t.Fatalf("%v: nobody goes on: %v", order, []int(f.times))
			}
		}
		f.ended(t, fmt.Sprint(order))
	})
}

// P10.3: the same of more workers and phases, as chance picks them.
func TestManyOrdersOfAShift(t *testing.T) {
	for seed := range int64(200) {
		r := rand.New(rand.NewSource(seed))
		phases := make([]int, 1+r.Intn(6))
		for i := range phases {
			phases[i] = r.Intn(30)
		}
		workers := 1 + r.Intn(20)
		f := begun(t, workers, phases...)
		for n := 0; n < 100000 && f.times.phase() < len(phases); n++ {
			f.step(t, r.Intn(workers))
		}
		f.ended(t, fmt.Sprint("seed ", seed))
	}
}
