package plan_test

import (
	"fmt"
	"math"
	"math/rand"
	"testing"

	"ballast/api"
	"ballast/bits"
	"ballast/plan"
)

// P13.3: out of which regions words come, and how many wait.
func TestTakesAndWaits(t *testing.T) {
	for _, x := range []struct {
		name   string
		blocks []block
		waste  int
		takes  [][2]int
		waits  []int
	}{
		{"nothing lives", nil, 0, [][2]int{{}, {}, {}, {}}, []int{0, 0, 0, 0}},
		{"all stays", []block{{1, 1}, {12, 3}}, 20, [][2]int{{}, {}, {}, {}}, []int{0, 0, 0, 0}},
		{"out of itself", []block{{2, 2}}, 0, [][2]int{{0, 1}, {}, {}, {}}, []int{0, 0, 0, 0}},
		{"out of the last one", []block{{16, 2}}, 0, [][2]int{{3, 4}, {}, {}, {}}, []int{0, 0, 0, 1}},
		{"out of two", []block{{2, 2}, {6, 2}}, 0, [][2]int{{0, 2}, {}, {}, {}}, []int{0, 1, 0, 0}},
		{"out of two others", []block{{6, 2}, {12, 2}}, 0, [][2]int{{1, 3}, {}, {}, {}}, []int{0, 1, 1, 0}},
		{"one is taken out of by two", []block{{1, 3}, {5, 5}}, 0, [][2]int{{0, 2}, {1, 2}, {}, {}}, []int{0, 1, 0, 0}},
		{"one is taken out of by two others", []block{{1, 3}, {10, 5}}, 0, [][2]int{{0, 3}, {2, 3}, {}, {}}, []int{0, 0, 2, 0}},
		{"a dead one lies between", []block{{0, 2}, {16, 2}}, 0, [][2]int{{0, 4}, {}, {}, {}}, []int{0, 0, 0, 1}},
		{"only what stays lies between", []block{{0, 5}, {5, 2}, {15, 2}}, 0, [][2]int{{}, {1, 4}, {}, {}}, []int{0, 0, 0, 1}},
		{"one moves up to its end", []block{{5, 5}}, 0, [][2]int{{1, 2}, {}, {}, {}}, []int{0, 1, 0, 0}},
		{"a block over ends", []block{{4, 12}}, 0, [][2]int{{0, 2}, {1, 3}, {2, 4}, {}}, []int{0, 1, 1, 1}},
		{"from Dense on within a region", []block{{0, 4}, {4, 3}, {8, 1}, {11, 1}}, 0, [][2]int{{}, {1, 3}, {}, {}}, []int{0, 0, 1, 0}},
		{"Dense's region has none from there on", []block{{0, 4}, {4, 3}, {11, 4}}, 0, [][2]int{{}, {2, 3}, {2, 3}, {}}, []int{0, 0, 1, 0}},
	} {
		r := row{20, x.blocks}
		p, errno := plan.Make(r.bits(t), 0, 20, 5, x.waste)
		same(t, x.name, errno, api.OK)
		sameList(t, x.name+": Takes", p.Takes, x.takes)
		sameList(t, x.name+": Waits", p.Waits, x.waits)
		hold(t, r, args{0, 20, 5, x.waste})
	}
}

// P13.3: none, one and several gaps, and where they begin and end.
func TestGaps(t *testing.T) {
	for _, x := range []struct {
		name   string
		blocks []block
		args   args
		gaps   [][2]int
	}{
		{"no word", nil, args{7, 7, 5, 9}, nil},
		{"nothing stays", []block{{3, 2}}, args{0, 20, 5, 0}, nil},
		{"all that stays lives", []block{{0, 5}, {5, 3}, {10, 1}}, args{0, 20, 5, 0}, nil},
		{"all is dead and stays", nil, args{0, 20, 5, 20}, [][2]int{{0, 20}}},
		{"some is dead and stays", nil, args{0, 20, 5, 13}, [][2]int{{0, 10}}},
		{"at the beginning", []block{{2, 8}}, args{0, 20, 5, 2}, [][2]int{{0, 2}}},
		{"at the end", []block{{0, 8}}, args{0, 20, 5, 2}, [][2]int{{8, 10}}},
		{"between", []block{{0, 4}, {6, 4}}, args{0, 20, 5, 2}, [][2]int{{4, 6}}},
		{"several", []block{{1, 1}, {2, 2}, {5, 1}, {9, 3}}, args{0, 20, 5, 19}, [][2]int{{0, 1}, {4, 5}, {6, 9}, {12, 20}}},
		{"within the heap alone", []block{{4, 1}, {8, 2}, {16, 2}}, args{6, 14, 4, 9}, [][2]int{{6, 8}, {10, 14}}},
		{"up to a block over the regions' end", []block{{0, 1}, {3, 4}}, args{0, 20, 5, 2}, [][2]int{{1, 3}}},
		{"up to Dense, where a block begins", []block{{0, 3}, {5, 2}}, args{0, 20, 5, 2}, [][2]int{{3, 5}}},
		{"each second word", []block{{1, 1}, {3, 1}, {5, 1}}, args{0, 6, 2, 3}, [][2]int{{0, 1}, {2, 3}, {4, 5}}},
	} {
		r := row{20, x.blocks}
		b := r.bits(t)
		p, errno := plan.Make(b, x.args.from, x.args.to, x.args.region, x.args.waste)
		same(t, x.name, errno, api.OK)
		sameList(t, x.name, plan.Gaps(p, b), x.gaps)
	}
}

// nothing holds P13.3's answers of no plan, or of no bits.
func nothing(t *testing.T, what string, p api.Plan, b *bits.Bits) {
	t.Helper()
	for _, at := range append(far(), span(-2, 32)...) {
		same(t, fmt.Sprint(what, ": Forward ", at), plan.Forward(p, b, at), 0)
		same(t, fmt.Sprint(what, ": Source ", at), plan.Source(p, b, at), -1)
	}
	same(t, what+": Gaps", len(plan.Gaps(p, b)), 0)
}

// P13.3: the empty plan, at each call, with bits and without.
func TestEmptyPlan(t *testing.T) {
	var p api.Plan
	full := row{30, []block{{0, 30}}}.bits(t)
	for _, b := range []*bits.Bits{nil, {}, bits.New(30), example().bits(t), full} {
		nothing(t, "empty", p, b)
	}
	for _, n := range append(far(), span(-2, 32)...) {
		same(t, fmt.Sprint("Region ", n), plan.Region(p, n), -1)
		same(t, fmt.Sprint("Span ", n), spanOf(p, n), [2]int{})
		same(t, fmt.Sprint("Goal ", n), goalOf(p, n), [2]int{})
	}
}

// P13.3: a plan without bits, whatever it says.
func TestNoBits(t *testing.T) {
	for waste := range 12 {
		p, _ := plan.Make(example().bits(t), 1, 21, 5, waste)
		for _, b := range []*bits.Bits{nil, {}, bits.New(0)} {
			nothing(t, fmt.Sprint("waste ", waste), p, b)
		}
	}
	p, errno := plan.Make(nil, 1, 21, 5, 2)
	same(t, "Make", errno, api.ErrArg)
	nothing(t, "what Make told", p, nil)
}

// ask is each call of a plan; none of them may panic, or take long.
func ask(p api.Plan, b *bits.Bits, n int) {
	plan.Forward(p, b, n)
	plan.Source(p, b, n)
	plan.Region(p, n)
	plan.Span(p, n)
	plan.Goal(p, n)
}

// P13.3, P1: plans that Make did not make: each number is another one.
func TestOtherPlans(t *testing.T) {
	b := example().bits(t)
	ns := append(far(), 0, 1, 5, 6, 14, 20, 21, 30, 100)
	for _, first := range ns {
		for _, second := range ns {
			for place := range 25 {
				p, _ := made(t)
				fields := []*int{&p.From, &p.To, &p.Region, &p.Dense, &p.Top}
				*fields[place/5] = first
				*fields[place%5] = second
				for _, with := range []*bits.Bits{b, nil, {}, bits.New(3)} {
					for _, n := range []int{math.MinInt, -1, 0, 1, 7, 12, 20, 21, 29, first, second, math.MaxInt} {
						ask(p, with, n)
					}
					plan.Gaps(p, with)
				}
			}
		}
	}
}

// P13.3, P1: plans whose lists are not theirs: too short, too long, or of any
// numbers.
func TestOtherLists(t *testing.T) {
	b := example().bits(t)
	r := rand.New(rand.NewSource(31))
	numbers := append(far(), span(-3, 25)...)
	for range 2000 {
		p, _ := made(t)
		for _, l := range []*[]int{&p.Live, &p.Ahead, &p.Waits} {
			*l = make([]int, r.Intn(8))
			for i := range *l {
				(*l)[i] = numbers[r.Intn(len(numbers))]
			}
		}
		p.Takes = make([][2]int, r.Intn(8))
		for _, n := range numbers {
			ask(p, b, n)
		}
		plan.Gaps(p, b)
	}
	p, _ := made(t)
	p.Live, p.Ahead, p.Waits, p.Takes = nil, nil, nil, nil
	for _, n := range numbers {
		ask(p, b, n)
	}
	plan.Gaps(p, b)
}
