package plan_test

import (
	"fmt"
	"math"
	"math/rand"
	"reflect"
	"slices"
	"testing"

	"ballast/api"
	"ballast/bits"
	"ballast/plan"
)

// The chapter's example, whole.
func TestExample(t *testing.T) {
	b := example().bits(t)
	p, errno := plan.Make(b, 1, 21, 5, 2)
	same(t, "errno", errno, api.OK)
	samePlan(t, "Make", p, api.Plan{
		From: 1, To: 21, Region: 5, Dense: 6, Top: 14,
		Live:  []int{3, 2, 5, 1},
		Ahead: []int{0, 0, 2, 7},
		Takes: [][2]int{{}, {1, 3}, {2, 4}, {}},
		Waits: []int{0, 0, 1, 1},
	})
	for _, x := range [][2]int{{9, 6}, {12, 9}, {16, 13}, {5, 0}} {
		same(t, fmt.Sprint("Forward ", x[0]), plan.Forward(p, b, x[0]), x[1])
	}
	for _, x := range [][2]int{{8, 11}, {14, -1}} {
		same(t, fmt.Sprint("Source ", x[0]), plan.Source(p, b, x[0]), x[1])
	}
	for region, want := range [][2]int{{}, {6, 11}, {11, 14}, {}} {
		same(t, fmt.Sprint("Goal ", region), goalOf(p, region), want)
	}
	sameList(t, "Gaps", plan.Gaps(p, b), [][2]int{{4, 6}})
}

// P13.1: what Make does not take, and what is just enough.
func TestMakeOfArguments(t *testing.T) {
	b := example().bits(t) // blocks from 1 to 4, 9 to 12, 12 to 14, 14 to 17
	for _, x := range []struct {
		name  string
		bits  *bits.Bits
		args  args
		errno api.Errno
	}{
		{"all is right", b, args{1, 21, 5, 2}, api.OK},
		{"no bits", nil, args{1, 21, 5, 2}, api.ErrArg},
		{"no bits and no word", nil, args{0, 0, 1, 0}, api.ErrArg},
		{"bits without words", &bits.Bits{}, args{0, 0, 1, 0}, api.OK},
		{"bits without words, a heap of one", &bits.Bits{}, args{0, 1, 1, 0}, api.ErrArg},
		{"from below 0", b, args{-1, 21, 5, 2}, api.ErrArg},
		{"from 0", b, args{0, 21, 5, 2}, api.OK},
		{"from above to", b, args{22, 21, 5, 2}, api.ErrArg},
		{"from is to", b, args{21, 21, 5, 2}, api.OK},
		{"to is all words", b, args{1, 30, 5, 2}, api.OK},
		{"to above all words", b, args{1, 31, 5, 2}, api.ErrArg},
		{"from and to are all words", b, args{30, 30, 5, 2}, api.OK},
		{"from and to above all words", b, args{31, 31, 5, 2}, api.ErrArg},
		{"to below 0", b, args{0, -1, 5, 2}, api.ErrArg},
		{"both below 0", b, args{-2, -1, 5, 2}, api.ErrArg},
		{"a region of 0 words", b, args{1, 21, 0, 2}, api.ErrArg},
		{"a region below 0", b, args{1, 21, -5, 2}, api.ErrArg},
		{"a region of 1 word", b, args{1, 21, 1, 2}, api.OK},
		{"a region as great as the heap", b, args{1, 21, 20, 2}, api.OK},
		{"a region greater than the heap", b, args{1, 21, 21, 2}, api.OK},
		{"a region beyond all words", b, args{1, 21, math.MaxInt, 2}, api.OK},
		{"a waste below 0", b, args{1, 21, 5, -1}, api.ErrArg},
		{"a waste of 0", b, args{1, 21, 5, 0}, api.OK},
		{"a waste beyond all words", b, args{1, 21, 5, math.MaxInt}, api.OK},
		{"a block ahead of from that just does not reach it", b, args{4, 21, 5, 2}, api.OK},
		{"a block ahead of from whose last word is from", b, args{3, 21, 5, 2}, api.ErrArg},
		{"a block that begins one ahead of from", b, args{2, 21, 5, 2}, api.ErrArg},
		{"from between two blocks", b, args{12, 21, 5, 2}, api.OK},
		{"from between two blocks, the second one behind to", b, args{12, 14, 5, 2}, api.OK},
		{"from within a block", b, args{13, 21, 5, 2}, api.ErrArg},
		{"to within a block, its last word", b, args{1, 16, 5, 2}, api.ErrArg},
		{"to within a block, its second word", b, args{1, 15, 5, 2}, api.ErrArg},
		{"to where a block begins", b, args{1, 14, 5, 2}, api.OK},
		{"to where a block ends", b, args{1, 17, 5, 2}, api.OK},
		{"no word, within a block", b, args{10, 10, 5, 2}, api.ErrArg},
		{"no word, where a block begins", b, args{9, 9, 5, 2}, api.OK},
		{"no word, between two blocks", b, args{12, 12, 5, 2}, api.OK},
		{"a block from ahead of from to behind to", b, args{10, 11, 5, 2}, api.ErrArg},
	} {
		p, errno := plan.Make(x.bits, x.args.from, x.args.to, x.args.region, x.args.waste)
		same(t, x.name, errno, x.errno)
		if errno != api.OK {
			same(t, x.name+": no plan", reflect.DeepEqual(p, api.Plan{}), true)
		}
	}
}

// P13.1, P1: numbers at both ends of int, at each place.
func TestMakeOfFarNumbers(t *testing.T) {
	for _, n := range far() {
		hold(t, example(), args{n, 21, 5, 2})
		hold(t, example(), args{1, n, 5, 2})
		hold(t, example(), args{n, n, 5, 2})
		hold(t, example(), args{1, 21, n, 2})
		hold(t, example(), args{1, 21, 5, n})
		hold(t, example(), args{0, 30, n, n})
		for _, other := range far() {
			hold(t, example(), args{n, other, other, n})
			hold(t, example(), args{0, 30, n, other})
		}
	}
}

// P13.1: Dense by the waste that may be, with the regions' dead words 2, 3, 0,
// 4 (and a block over the third one's end).
func TestDense(t *testing.T) {
	b := example().bits(t)
	for _, x := range []struct{ waste, dense, top int }{
		{0, 1, 12}, {1, 1, 12}, {2, 6, 14}, {3, 6, 14}, {4, 6, 14},
		{5, 17, 17}, {6, 17, 17}, {8, 17, 17}, {9, 21, 21}, {10, 21, 21}, {1000, 21, 21},
	} {
		p, _ := plan.Make(b, 1, 21, 5, x.waste)
		same(t, fmt.Sprint("waste ", x.waste, ": Dense"), p.Dense, x.dense)
		same(t, fmt.Sprint("waste ", x.waste, ": Top"), p.Top, x.top)
	}
}

// P13.1: a block over the greatest k's end: Dense is its own end; one that
// begins or ends just there stays where the regions say.
func TestDenseOverABlock(t *testing.T) {
	for _, x := range []struct {
		name   string
		blocks []block
		waste  int
		dense  int
	}{
		{"over the end", []block{{0, 4}, {4, 3}, {8, 1}}, 0, 7},
		{"by one word ahead", []block{{0, 4}, {4, 4}}, 0, 8},
		{"by one word behind", []block{{0, 2}, {2, 4}, {8, 1}}, 0, 6},
		{"begins at the end", []block{{0, 5}, {5, 2}}, 0, 5},
		{"ends at the end", []block{{0, 3}, {3, 2}, {9, 1}}, 0, 5},
		{"from the first word over two ends", []block{{0, 13}}, 0, 13},
		{"over the end of none", []block{{1, 9}}, 0, 0},
		{"behind waste, over the second end", []block{{2, 4}, {8, 4}}, 5, 12},
		{"nothing at the end", []block{{0, 4}, {6, 4}}, 1, 5},
	} {
		r := row{20, x.blocks}
		p, errno := plan.Make(r.bits(t), 0, 20, 5, x.waste)
		same(t, x.name, errno, api.OK)
		same(t, x.name+": Dense", p.Dense, x.dense)
		hold(t, r, args{0, 20, 5, x.waste})
	}
}

// P13.1: a heap without words.
func TestHeapOfNoWord(t *testing.T) {
	for _, at := range []int{0, 1, 4, 9, 12, 17, 21, 30} {
		p, errno := plan.Make(example().bits(t), at, at, 5, 2)
		same(t, fmt.Sprint("at ", at), errno, api.OK)
		samePlan(t, fmt.Sprint("at ", at), p, api.Plan{From: at, To: at, Region: 5, Dense: at, Top: at})
		hold(t, example(), args{at, at, 5, 0})
	}
}

// P13.1: a last region that has fewer words, at each heap's end.
func TestLastRegionIsShort(t *testing.T) {
	b := example().bits(t)
	p, _ := plan.Make(b, 1, 30, 5, 0)
	same(t, "regions", len(p.Live), 6)
	same(t, "the last one", spanOf(p, 5), [2]int{26, 30})
	p, _ = plan.Make(b, 1, 17, 5, 5)
	sameList(t, "Live", p.Live, []int{3, 2, 5, 1})
	same(t, "a last one that is live: Dense", p.Dense, 17)
	for _, to := range []int{17, 18, 19, 20, 21, 22, 23, 26, 30} {
		for region := range 32 {
			hold(t, example(), args{1, to, region, 2})
		}
	}
}

// P13.1: regions that are wholly live, wholly dead, and some of each.
func TestRegionsOfAllKinds(t *testing.T) {
	for _, x := range []struct {
		name   string
		blocks []block
	}{
		{"all live, one block", []block{{0, 24}}},
		{"all live, many blocks", []block{{0, 5}, {5, 1}, {6, 6}, {12, 7}, {19, 5}}},
		{"all dead", nil},
		{"live ahead of dead", []block{{0, 12}}},
		{"dead ahead of live", []block{{12, 12}}},
		{"one after the other", []block{{4, 4}, {12, 4}, {20, 4}}},
		{"some of each", []block{{1, 2}, {4, 4}, {14, 3}, {18, 1}, {20, 4}}},
		{"one word in each", []block{{3, 1}, {4, 1}, {9, 1}, {14, 1}, {19, 1}, {20, 1}}},
		{"dead among what moves", []block{{1, 1}, {20, 2}}},
	} {
		t.Run(x.name, func(t *testing.T) {
			for region := 1; region <= 26; region++ {
				for waste := range 26 {
					hold(t, row{24, x.blocks}, args{0, 24, region, waste})
				}
			}
		})
	}
}

// P13.1 to P13.3: all rows of blocks of few words, all heaps among them, all
// regions and wastes.
func TestAllSmallRows(t *testing.T) {
	for words := range 5 {
		for _, r := range allRows(words) {
			for from := range words + 1 {
				for to := from; to <= words; to++ {
					for region := 1; region <= words+1; region++ {
						for waste := range words + 1 {
							hold(t, r, args{from, to, region, waste})
						}
					}
				}
			}
		}
	}
	for _, r := range allRows(7) {
		for region := 1; region <= 4; region++ {
			for waste := range 5 {
				hold(t, r, args{0, 7, region, waste})
			}
		}
	}
}

// P13.1 to P13.3: many greater rows.
func TestDrawnRows(t *testing.T) {
	r := rand.New(rand.NewSource(13))
	for range 1500 {
		x := drawn(r, 1+r.Intn(150), 1+r.Intn(1+r.Intn(40)), r.Intn(101))
		hold(t, x, drawnArgs(r, x))
	}
}

// P13.1, R5: as many words as there may be.
func TestGreatestHeaps(t *testing.T) {
	const words = api.MaxWords
	one := row{words, []block{{1, words - 1}}}.bits(t)
	p, errno := plan.Make(one, 0, words, 1, 0)
	same(t, "regions of a word", errno, api.OK)
	same(t, "regions", len(p.Live), words)
	same(t, "Dense", p.Dense, 0)
	same(t, "Top", p.Top, words-1)
	same(t, "Forward", plan.Forward(p, one, words-1), words-2)
	same(t, "Source", plan.Source(p, one, words-2), words-1)
	same(t, "Takes", p.Takes[words-2], [2]int{words - 1, words})
	same(t, "Waits of the first", p.Waits[0], 0)
	same(t, "Waits of the last", p.Waits[words-1], 1)

	p, _ = plan.Make(one, 0, words, words, 0)
	same(t, "one region: Top", p.Top, words-1)
	for at := 1; at < words; at += 97 {
		same(t, "one region: Forward", plan.Forward(p, one, at), at-1)
		same(t, "one region: Source", plan.Source(p, one, at-1), at)
	}

	odd := bits.New(words)
	for at := 1; at < words; at += 2 {
		odd.Mark(at, 1)
	}
	p, _ = plan.Make(odd, 0, words, 1000, words)
	same(t, "all may be wasted: Dense", p.Dense, words)
	same(t, "all may be wasted: Gaps", len(plan.Gaps(p, odd)), words/2)
	p, _ = plan.Make(odd, 0, words, 1000, 0)
	same(t, "none may be wasted: Top", p.Top, words/2)
	same(t, "none may be wasted: Gaps", len(plan.Gaps(p, odd)), 0)
	for at := 1; at < words; at += 2 {
		same(t, "Forward", plan.Forward(p, odd, at), at/2)
		same(t, "Source", plan.Source(p, odd, at/2), at)
	}
}

// R3: bits stay as they are; a plan does not change with them, nor with
// another one, and no two of its lists are one.
func TestPlanIsItsOwners(t *testing.T) {
	b := example().bits(t)
	p, _ := plan.Make(b, 1, 21, 5, 2)
	q, _ := plan.Make(b, 1, 21, 5, 2)
	want, _ := plan.Make(example().bits(t), 1, 21, 5, 2)
	for i := range p.Live {
		p.Live[i] = 100
		sameList(t, "Ahead", p.Ahead, want.Ahead)
		sameList(t, "Waits", p.Waits, want.Waits)
	}
	for i := range p.Ahead {
		p.Ahead[i] = 100
		sameList(t, "Waits", p.Waits, want.Waits)
	}
	_, _, _ = append(p.Live, 7), append(p.Ahead, 7), append(p.Waits, 7)
	samePlan(t, "another plan", q, want)
	gaps := plan.Gaps(q, b)
	gaps[0] = [2]int{7, 7}
	sameList(t, "Gaps again", plan.Gaps(q, b), [][2]int{{4, 6}})
	b.Clear()
	b.Mark(20, 1)
	samePlan(t, "a plan whose bits were changed", q, want)
}

// R3, R4: no call changes bits or plan, and each is answered the same again.
func TestNothingIsChanged(t *testing.T) {
	x := example()
	b := x.bits(t)
	p, _ := plan.Make(b, 1, 21, 5, 2)
	for range 2 {
		for _, at := range span(-2, 33) {
			plan.Forward(p, b, at)
			plan.Source(p, b, at)
			plan.Region(p, at)
			plan.Span(p, at)
			plan.Goal(p, at)
			plan.Gaps(p, b)
		}
		again, errno := plan.Make(b, 1, 21, 5, 2)
		same(t, "errno", errno, api.OK)
		samePlan(t, "again", again, p)
		samePlan(t, "what was asked", p, modelOf(x, args{1, 21, 5, 2}).plan)
	}
	var begins []block
	for at := range 30 {
		if b.Has(at) {
			begins = append(begins, block{at, b.Size(at)})
		}
	}
	slices.SortFunc(x.blocks, func(a, b block) int { return a.at - b.at })
	sameList(t, "marks", begins, x.blocks)
}
