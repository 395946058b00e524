package plan_test

import (
	"fmt"
	"math"
	"testing"

	"ballast/api"
	"ballast/bits"
	"ballast/plan"
)

// made is the plan of the chapter's example.
func made(t *testing.T) (api.Plan, *bits.Bits) {
	t.Helper()
	b := example().bits(t)
	p, errno := plan.Make(b, 1, 21, 5, 2)
	if errno != api.OK {
		t.Fatal(errno)
	}
	return p, b
}

// P13.2: a word's region, and none.
func TestRegion(t *testing.T) {
	p, _ := made(t)
	for _, x := range [][2]int{{-1, -1}, {0, -1}, {1, 0}, {5, 0}, {6, 1}, {10, 1}, {11, 2}, {15, 2}, {16, 3}, {20, 3}, {21, -1}, {22, -1}, {29, -1}, {30, -1}} {
		same(t, fmt.Sprint("Region ", x[0]), plan.Region(p, x[0]), x[1])
	}
	for _, at := range far() {
		same(t, fmt.Sprint("Region ", at), plan.Region(p, at), -1)
	}
}

// P13.2: a region's words, none, and those of one that is greater than all.
func TestSpan(t *testing.T) {
	p, b := made(t)
	for region, want := range [][2]int{{1, 6}, {6, 11}, {11, 16}, {16, 21}, {}, {}} {
		same(t, fmt.Sprint("Span ", region), spanOf(p, region), want)
	}
	for _, region := range far() {
		same(t, fmt.Sprint("Span ", region), spanOf(p, region), [2]int{})
	}
	for _, size := range []int{20, 21, 1 << 40, math.MaxInt - 1, math.MaxInt} {
		p, _ = plan.Make(b, 1, 21, size, 2)
		same(t, fmt.Sprint("one of ", size), spanOf(p, 0), [2]int{1, 21})
		same(t, fmt.Sprint("none behind one of ", size), spanOf(p, 1), [2]int{})
	}
	p, _ = plan.Make(b, 1, 21, 9, 2)
	for region, want := range [][2]int{{1, 10}, {10, 19}, {19, 21}, {}} {
		same(t, fmt.Sprint("the last one has fewer: ", region), spanOf(p, region), want)
	}
}

// P13.2: a Goal that begins within a region, at Dense, and one that ends
// within it, at Top; none ahead of Dense and from Top on.
func TestGoal(t *testing.T) {
	r := row{20, []block{{0, 4}, {4, 3}, {8, 3}, {12, 4}}} // Dense 7, Top 14
	p, _ := plan.Make(r.bits(t), 0, 20, 5, 0)
	same(t, "Dense", p.Dense, 7)
	same(t, "Top", p.Top, 14)
	for region, want := range [][2]int{{}, {7, 10}, {10, 14}, {}, {}} {
		same(t, fmt.Sprint("Goal ", region), goalOf(p, region), want)
	}
	for _, region := range far() {
		same(t, fmt.Sprint("Goal ", region), goalOf(p, region), [2]int{})
	}
	p, _ = plan.Make(r.bits(t), 0, 20, 20, 0) // Dense 0
	same(t, "a Goal from word 0 on", goalOf(p, 0), [2]int{0, 14})
	p, _ = plan.Make(r.bits(t), 0, 20, 5, 20) // Dense 20
	for region := range 4 {
		same(t, "all stays", goalOf(p, region), [2]int{})
	}
	p, _ = plan.Make(row{words: 20}.bits(t), 0, 20, 5, 0)
	for region := range 4 {
		same(t, "nothing lives", goalOf(p, region), [2]int{})
	}
	p, _ = plan.Make(row{20, []block{{1, 4}, {12, 1}}}.bits(t), 0, 20, 5, 0) // Top 5
	same(t, "up to a region's end", goalOf(p, 0), [2]int{0, 5})
	same(t, "Top is where a region begins", goalOf(p, 1), [2]int{})
}

// P13.2: where words go.
func TestForward(t *testing.T) {
	r := row{24, []block{{0, 2}, {2, 2}, {7, 3}, {12, 2}, {17, 1}, {19, 2}, {21, 3}}}
	b := r.bits(t)
	p, errno := plan.Make(b, 2, 21, 4, 3) // dead: 4 5 6, 10 11, 14 15 16, 18
	same(t, "errno", errno, api.OK)
	same(t, "Dense", p.Dense, 10)
	for _, x := range []struct {
		name     string
		at, goes int
	}{
		{"ahead of From, live", 0, 0},
		{"ahead of From, live, the last one", 1, 0},
		{"ahead of Dense, the first one", 2, 2},
		{"ahead of Dense, within a block", 3, 3},
		{"ahead of Dense, dead", 4, 0},
		{"ahead of Dense, a block's first", 7, 7},
		{"ahead of Dense, the last one", 9, 9},
		{"Dense itself, dead", 10, 0},
		{"from Dense on, dead", 11, 0},
		{"from Dense on, the first one", 12, 10},
		{"from Dense on, the second one", 13, 11},
		{"from Dense on, of a block of one", 17, 12},
		{"from Dense on, dead", 18, 0},
		{"from Dense on", 19, 13},
		{"the heap's last", 20, 14},
		{"from To on, live", 21, 0},
		{"from To on, live, the last one", 23, 0},
		{"beyond all words", 24, 0},
		{"below 0", -1, 0},
	} {
		same(t, x.name, plan.Forward(p, b, x.at), x.goes)
	}
	for _, at := range far() {
		same(t, fmt.Sprint("Forward ", at), plan.Forward(p, b, at), 0)
	}
}

// P13.2: what comes to words.
func TestSource(t *testing.T) {
	r := row{24, []block{{0, 2}, {2, 2}, {7, 3}, {12, 2}, {17, 1}, {19, 2}, {21, 3}}}
	b := r.bits(t)
	p, _ := plan.Make(b, 2, 21, 4, 3)
	for _, x := range []struct {
		name      string
		at, comes int
	}{
		{"ahead of From, live", 1, -1},
		{"ahead of Dense, live", 2, 2},
		{"ahead of Dense, dead", 5, -1},
		{"ahead of Dense, the last one", 9, 9},
		{"Dense", 10, 12},
		{"the next one", 11, 13},
		{"one that lives itself", 12, 17},
		{"another one that does", 13, 19},
		{"the last one ahead of Top", 14, 20},
		{"Top", 15, -1},
		{"behind Top, live", 17, -1},
		{"behind Top, the heap's last", 20, -1},
		{"from To on, live", 21, -1},
		{"beyond all words", 24, -1},
		{"below 0", -1, -1},
	} {
		same(t, x.name, plan.Source(p, b, x.at), x.comes)
	}
	for _, at := range far() {
		same(t, fmt.Sprint("Source ", at), plan.Source(p, b, at), -1)
	}
}

// P13.2: word 0 is a word like all others: it may stay, and be gone to.
func TestWordZero(t *testing.T) {
	b := row{10, []block{{0, 1}, {5, 1}}}.bits(t)
	p, _ := plan.Make(b, 0, 10, 2, 10)
	same(t, "Source of 0, which stays", plan.Source(p, b, 0), 0)
	p, _ = plan.Make(b, 0, 10, 2, 0)
	same(t, "Source of 0, which goes to itself", plan.Source(p, b, 0), 0)
	same(t, "Source of 1", plan.Source(p, b, 1), 5)
	b = row{10, []block{{5, 1}}}.bits(t)
	p, _ = plan.Make(b, 0, 10, 2, 0)
	same(t, "Source of 0", plan.Source(p, b, 0), 5)
	same(t, "Forward to 0", plan.Forward(p, b, 5), 0)
}
