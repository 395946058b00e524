package turns_test

import (
	"math"
	"slices"
	"testing"

	"ballast/api"
	"ballast/turns"
)

func same[T comparable](t *testing.T, what string, got, want T) {
	t.Helper()
	if got != want {
		t.Errorf("%s: %v, want %v", what, got, want)
	}
}

func sameList(t *testing.T, what string, got []int, want ...int) {
	t.Helper()
	if !slices.Equal(got, want) {
		t.Errorf("%s: %v, want %v", what, got, want)
	}
}

// added holds what Add told; picked what Pick told.
type added struct {
	task  int
	errno api.Errno
}

type picked struct {
	task int
	ok   bool
}

func add(x *turns.Turns, step func() int) added {
	task, errno := x.Add(step)
	return added{task, errno}
}

func pick(x *turns.Turns, p int) picked {
	task, ok := x.Pick(p)
	return picked{task, ok}
}

// walker is who takes steps: it tells its list's numbers, and End behind them.
type walker struct {
	tells []int
	taken int
}

func (w *walker) step() int {
	w.taken++
	if w.taken > len(w.tells) {
		return api.End
	}
	return w.tells[w.taken-1]
}

// telling is a step that tells these numbers, one behind the other.
func telling(l ...int) func() int {
	return (&walker{tells: l}).step
}

func goes() int { return api.Go }

// with has a task for each of these steps.
func with(t *testing.T, steps ...func() int) *turns.Turns {
	t.Helper()
	x := turns.New()
	for i, step := range steps {
		same(t, "Add", add(x, step), added{i + 1, api.OK})
	}
	return x
}

func states(x *turns.Turns, n int) []int {
	var l []int
	for i := range n {
		l = append(l, x.State(i+1))
	}
	return l
}

func steps(x *turns.Turns, n int) []int {
	var l []int
	for i := range n {
		l = append(l, x.Steps(i+1))
	}
	return l
}

// P2.1: New has no tasks.
func TestNewHasNone(t *testing.T) {
	x := turns.New()
	if x == nil {
		t.Fatal("New: nil")
	}
	sameList(t, "Ready", x.Ready())
	same(t, "State(1)", x.State(1), -1)
	same(t, "Steps(1)", x.Steps(1), 0)
	same(t, "Stuck", x.Stuck(), false)
	same(t, "Pick(0)", pick(x, 0), picked{})
	same(t, "Run(3)", x.Run(3), 0)
	same(t, "Wake(1)", x.Wake(1), 0)
}

// P2.1: tasks have numbers from 1 on, go, and took no step yet: Add takes none.
func TestAddedTasksGo(t *testing.T) {
	w := &walker{}
	x := with(t, w.step, w.step, w.step)
	sameList(t, "Ready", x.Ready(), 1, 2, 3)
	sameList(t, "State", states(x, 3), api.Go, api.Go, api.Go)
	sameList(t, "Steps", steps(x, 3), 0, 0, 0)
	same(t, "steps that were taken", w.taken, 0)
	same(t, "Stuck", x.Stuck(), false)
}

// P2.1, R2: a nil step is no task, and takes no number.
func TestAddOfNoStep(t *testing.T) {
	x := turns.New()
	same(t, "Add(nil)", add(x, nil), added{0, api.ErrArg})
	same(t, "State(1)", x.State(1), -1)
	sameList(t, "Ready", x.Ready())
	same(t, "Add", add(x, goes), added{1, api.OK})
	same(t, "Add(nil) behind one", add(x, nil), added{0, api.ErrArg})
	same(t, "Add behind it", add(x, goes), added{2, api.OK})
}

// P2.1: MaxTasks of them, and not one more, whether they have ended or not;
// ErrArg is named ahead of ErrFull.
func TestAddTillFull(t *testing.T) {
	same(t, "MaxTasks", api.MaxTasks, 128)
	x := turns.New()
	for i := range 127 {
		same(t, "Add", add(x, telling()), added{i + 1, api.OK})
	}
	same(t, "State(128) ahead of it", x.State(128), -1)
	same(t, "the task 128", add(x, goes), added{128, api.OK})
	same(t, "State(128)", x.State(128), api.Go)
	same(t, "the one behind it", add(x, goes), added{0, api.ErrFull})
	same(t, "Add(nil) of a full one", add(x, nil), added{0, api.ErrArg})
	same(t, "State(129)", x.State(129), -1)
	same(t, "Ready", len(x.Ready()), 128)

	same(t, "Pick(0)", pick(x, 0), picked{1, true})
	same(t, "State(1)", x.State(1), api.End)
	same(t, "Add once one has ended", add(x, goes), added{0, api.ErrFull})
	same(t, "Pick of the last", pick(x, 126), picked{128, true})
	same(t, "Steps(128)", x.Steps(128), 1)
}

// P2.1: a task's state is 0, 1 or 2, whatever its step tells.
func TestOtherNumbersCountAsEnd(t *testing.T) {
	for _, k := range []struct{ told, want int }{
		{0, 0}, {1, 1}, {2, 2}, {3, 2}, {7, 2}, {-1, 2}, {-2, 2},
		{256, 2}, {1 << 32, 2}, {1<<32 + 1, 2},
		{math.MinInt, 2}, {math.MaxInt, 2},
	} {
		x := with(t, telling(k.told))
		same(t, "Pick", pick(x, 0), picked{1, true})
		same(t, "State", x.State(1), k.want)
		same(t, "Wake", x.Wake(1) == 1, k.want == api.Wait)
		same(t, "Ready", len(x.Ready()) == 0, k.want == api.End)
	}
}

// P2.1: wrong inputs: tasks that aren't there.
func TestTasksThatAreNotThere(t *testing.T) {
	x := with(t, goes, goes)
	same(t, "Run", x.Run(4), 4)
	for _, task := range []int{0, 3, 4, 128, 129, -1, -2, math.MinInt, math.MaxInt} {
		same(t, "State", x.State(task), -1)
		same(t, "Steps", x.Steps(task), 0)
	}
	sameList(t, "State of those that are", states(x, 2), api.Go, api.Go)
	sameList(t, "Steps of those that are", steps(x, 2), 2, 2)
}

// P2.1: Steps counts a task's own steps alone, and goes on counting behind a
// time of waiting; neither Wake nor a pick of another one counts.
func TestStepsAreCounted(t *testing.T) {
	x := with(t, telling(0, 1, 0, 2), goes)
	for i, want := range []int{1, 2, 2} {
		x.Pick(0)
		same(t, "Steps(1)", x.Steps(1), want)
		same(t, "Steps(2)", x.Steps(2), max(0, i-1))
	}
	same(t, "Wake(1)", x.Wake(1), 1)
	same(t, "Steps(1) when it is woken", x.Steps(1), 2)
	x.Pick(0)
	x.Pick(0)
	same(t, "Steps(1) at its end", x.Steps(1), 4)
	same(t, "State(1)", x.State(1), api.End)
	same(t, "Steps(2)", x.Steps(2), 1)
}

// A nil object: nothing, -1, false; ErrArg.
func TestNilTurns(t *testing.T) {
	var x *turns.Turns
	same(t, "Add", add(x, goes), added{0, api.ErrArg})
	same(t, "Add(nil)", add(x, nil), added{0, api.ErrArg})
	same(t, "Pick(0)", pick(x, 0), picked{})
	same(t, "Pick(-1)", pick(x, -1), picked{})
	same(t, "Wake()", x.Wake(), 0)
	same(t, "Wake(1)", x.Wake(1, 1), 0)
	sameList(t, "Ready", x.Ready())
	for _, task := range []int{-1, 0, 1} {
		same(t, "State", x.State(task), -1)
		same(t, "Steps", x.Steps(task), 0)
	}
	same(t, "Stuck", x.Stuck(), false)
	same(t, "Run", x.Run(9, 1, 2), 0)
}

// A zero object is New().
func TestZeroTurns(t *testing.T) {
	var x turns.Turns
	sameList(t, "Ready", x.Ready())
	same(t, "State(1)", x.State(1), -1)
	same(t, "Steps(1)", x.Steps(1), 0)
	same(t, "Stuck", x.Stuck(), false)
	same(t, "Pick(0)", pick(&x, 0), picked{})
	same(t, "Run(3)", x.Run(3), 0)
	same(t, "Add(nil)", add(&x, nil), added{0, api.ErrArg})
	same(t, "Add", add(&x, telling(0, 1)), added{1, api.OK})
	same(t, "Run(9)", x.Run(9), 2)
	same(t, "Stuck behind it", x.Stuck(), true)
	same(t, "Wake(1)", x.Wake(1), 1)
	sameList(t, "Ready behind it", x.Ready(), 1)
}

// R3: two of them know nothing of each other.
func TestTurnsApart(t *testing.T) {
	x, y := turns.New(), turns.New()
	add(x, telling(1))
	same(t, "Add to the other", add(y, goes), added{1, api.OK})
	x.Pick(0)
	same(t, "State of the other", y.State(1), api.Go)
	same(t, "Steps of the other", y.Steps(1), 0)
	same(t, "Wake of the other", y.Wake(1), 0)
	same(t, "State", x.State(1), api.Wait)
}
