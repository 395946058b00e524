package blocks_test

import (
	"math"
	"math/rand"
	"slices"
	"testing"

	"ballast/api"
	"ballast/blocks"
	"ballast/cells"
)

// wide are classes of all kinds, at their edges.
func wide() []api.Class {
	return []api.Class{{Refs: 2, Words: 1}, {Array: 1}, {Array: 2}, {}, {Refs: 64}, {Words: 64}, {Refs: 1}, {Refs: 1, Words: 63}}
}

// made is a heap that was laid, with the blocks that it was laid as.
type made struct {
	heap
	laid []api.Block
}

// anyHeap lays blocks one behind the other, of any class, in used memory, and
// has each reference be one of theirs, or nothing.
func anyHeap(t *testing.T, r *rand.Rand) made {
	m := made{heap: heap{c: used(1 + r.Intn(600)), l: wide()}}
	m.from = r.Intn(m.c.Len())
	m.to = m.from
	for range 1 + r.Intn(60) {
		class, length := r.Intn(len(m.l)+1), 0
		if class == 0 || m.l[max(class, 1)-1].Array > 0 {
			length = r.Intn(12)
		}
		size, errno := blocks.Lay(m.c, m.l, m.to, class, length)
		if errno != api.OK {
			break
		}
		b := api.Block{At: m.to, Class: class, Len: length, Size: size}
		if told, errno := blocks.Read(m.c, m.l, m.to); told != b || errno != api.OK {
			t.Fatalf("laid %v, read %v, %d", b, told, errno)
		}
		m.laid, m.to = append(m.laid, b), m.to+size
	}
	for _, b := range m.laid {
		for i := range m.refsOf(b) {
			m.c.Put(b.At+1+i, m.anyRef(r))
		}
	}
	return m
}

// refsOf is how many references a block has, as the words of chapter 3 have it.
func (m made) refsOf(b api.Block) int {
	switch {
	case b.Class == 0:
		return 0
	case m.l[b.Class-1].Array == 1:
		return b.Len
	}
	return m.l[b.Class-1].Refs
}

// anyRef is an object's address, or nothing, about as often.
func (m made) anyRef(r *rand.Rand) int64 {
	b := m.laid[r.Intn(len(m.laid))]
	if b.Class == 0 || r.Intn(2) == 0 {
		return 0
	}
	return int64(b.At)
}

// anyRoots are some references.
func (m made) anyRoots(r *rand.Rand) []int64 {
	var roots []int64
	for range r.Intn(4) {
		if len(m.laid) > 0 {
			roots = append(roots, m.anyRef(r))
		}
	}
	return roots
}

// slowly is what roots reach, in the plainest way: all blocks are gone over
// again and again, till there is nothing new.
func (m made) slowly(roots []int64) []int {
	words := all(m.c)
	in := map[int64]bool{}
	for _, root := range roots {
		in[root] = true
	}
	for more := true; more; {
		more = false
		for _, b := range m.laid {
			for i := range m.refsOf(b) {
				ref := words[b.At+1+i]
				if b.At != 0 && in[int64(b.At)] && !in[ref] {
					in[ref], more = true, true
				}
			}
		}
	}
	var l []int
	for _, b := range m.laid {
		if b.At != 0 && b.Class != 0 && in[int64(b.At)] {
			l = append(l, b.At)
		}
	}
	return l
}

func (m made) reach(t *testing.T, roots []int64) []int {
	t.Helper()
	told, errno := blocks.Reach(m.c, m.l, m.from, m.to, roots...)
	if errno != api.OK {
		t.Fatalf("Reach from %v: %d, want OK", roots, errno)
	}
	return told
}

// P4.4: what is laid is read, and walked as it was laid, from each block and
// to each block on.
func TestWhatIsLaidIsWalked(t *testing.T) {
	for seed := range int64(300) {
		m := anyHeap(t, rand.New(rand.NewSource(seed)))
		walk(t, "all", m.c, m.l, m.from, m.to, m.laid...)
		for i, b := range m.laid {
			same(t, "Read", read(m.c, m.l, b.At), got{b: b})
			walk(t, "the first ones", m.c, m.l, m.from, b.At, m.laid[:i]...)
			walk(t, "the last ones", m.c, m.l, b.At, m.to, m.laid[i:]...)
			if b.Size > 1 {
				noWalk(t, "to a place within one", m.c, m.l, m.from, b.At+1, api.ErrHeap)
			}
		}
	}
}

// P4.4: what is filled is read as one filler.
func TestWhatIsFilledIsRead(t *testing.T) {
	c := used(9)
	for from := range 9 {
		for to := from + 1; to <= 9; to++ {
			blocks.Fill(c, from, to)
			b := api.Block{At: from, Len: to - from - 1, Size: to - from}
			same(t, "Read", read(c, nil, from), got{b: b})
			walk(t, "Walk", c, nil, from, to, b)
		}
	}
}

// P4.3: Reach is what the plainest way tells; Refs are the words that were put.
func TestReachIsWhatThePlainestWayTells(t *testing.T) {
	for seed := range int64(300) {
		r := rand.New(rand.NewSource(seed))
		m := anyHeap(t, r)
		for _, b := range m.laid {
			sameList(t, "Refs", blocks.Refs(m.c, m.l, b), m.c.Words(b.At+1, b.At+1+m.refsOf(b))...)
		}
		for range 4 {
			roots := m.anyRoots(r)
			sameList(t, "Reach", m.reach(t, roots), m.slowly(roots)...)
		}
	}
}

// P4.4: what is reached grows with the roots, and is reached from itself.
func TestReachGrowsAndIsReachedFromItself(t *testing.T) {
	for seed := range int64(300) {
		r := rand.New(rand.NewSource(seed))
		m := anyHeap(t, r)
		few, more := m.anyRoots(r), m.anyRoots(r)
		small, great := m.reach(t, few), m.reach(t, slices.Concat(few, more))
		for _, at := range small {
			if !slices.Contains(great, at) {
				t.Errorf("%v reach %v, with %v more %v", few, small, more, great)
			}
		}
		var itself []int64
		for _, at := range great {
			itself = append(itself, int64(at))
		}
		sameList(t, "Reach from itself", m.reach(t, itself), great...)
		if !slices.IsSorted(great) || len(slices.Compact(slices.Clone(great))) != len(great) {
			t.Errorf("%v does not rise", great)
		}
	}
}

// askAll makes each call, at ordinary and at wrong arguments.
func askAll(c *cells.Cells, l []api.Class, roots []int64) {
	for _, at := range []int{math.MinInt, -1, 0, 1, 2, 5, 8, 10, 11, 12, math.MaxInt} {
		for _, to := range []int{math.MinInt, -1, 0, 1, 5, 8, 10, 11, 12, math.MaxInt} {
			blocks.Walk(c, l, at, to)
			blocks.Reach(c, l, at, to)
			blocks.Reach(c, l, at, to, roots...)
			blocks.Refs(c, l, api.Block{At: at, Class: to, Len: to, Size: to})
		}
		blocks.Read(c, l, at)
		for class := -1; class <= 4; class++ {
			blocks.Refs(c, l, api.Block{At: at, Class: class, Len: 2, Size: 3})
		}
	}
}

// changeAll makes each call that changes memory, at ordinary and at wrong
// arguments.
func changeAll(c *cells.Cells, l []api.Class) {
	for _, at := range []int{math.MinInt, -1, 0, 1, 5, 9, 10, 11, 12, math.MaxInt} {
		for _, n := range []int{math.MinInt, -1, 0, 1, 2, 3, 4, 11, 12, math.MaxInt} {
			blocks.Fill(c, at, n)
			blocks.Lay(c, l, at, n, 0)
			blocks.Lay(c, l, at, 2, n)
			blocks.Lay(c, l, at, 0, n)
		}
	}
}

// No call counts an access, of a memory whose accesses were counted before.
func TestNoAccessIsCounted(t *testing.T) {
	for _, before := range []int{0, 3} {
		c := ofExample().c
		for range before {
			c.Load(0)
		}
		askAll(c, some(), from(1, 0, 5))
		askAll(c, some(), from(1, 8))
		same(t, "Steps of who asks", c.Steps(), before)
		changeAll(c, some())
		same(t, "Steps of who changes", c.Steps(), before)
	}
}

// P1, R1: no call panics of a memory that has no cells, and none gives it some.
func TestNothingComesOfNoCells(t *testing.T) {
	for name, c := range noMemories() {
		askAll(c, some(), from(1, 0, 5))
		askAll(c, nil, nil)
		changeAll(c, some())
		changeAll(c, nil)
		same(t, name+": Len", c.Len(), 0)
		same(t, name+": Steps", c.Steps(), 0)
	}
}

// R3: who asks changes neither the memory nor what he hands in.
func TestWhatIsAskedStaysAsItIs(t *testing.T) {
	c, l, roots := ofExample().c, append(some(), api.Class{Array: 3}), from(5, 0, 1, 1)
	words := all(c)
	askAll(c, l, roots)
	changeAll(cells.New(11), l)
	sameList(t, "the memory", all(c), words...)
	sameList(t, "the classes", l, append(some(), api.Class{Array: 3})...)
	sameList(t, "the roots", roots, 5, 0, 1, 1)
}

// R3, R4: what was told is its owner's, and the same calls have the same
// answers.
func TestWhatIsToldIsItsOwners(t *testing.T) {
	h := ofExample()
	b := api.Block{At: 1, Class: 1, Size: 4}
	walked, _ := blocks.Walk(h.c, h.l, 1, 11)
	reached, _ := blocks.Reach(h.c, h.l, 1, 11, 1)
	refs := blocks.Refs(h.c, h.l, b)
	walkedAgain, reachedAgain, refsAgain := slices.Clone(walked), slices.Clone(reached), slices.Clone(refs)
	clear(walked)
	clear(reached)
	clear(refs)
	walk(t, "Walk again", h.c, h.l, 1, 11, walkedAgain...)
	h.reaches(t, from(1), reachedAgain...)
	sameList(t, "Refs again", blocks.Refs(h.c, h.l, b), refsAgain...)

	walked, _ = blocks.Walk(h.c, h.l, 1, 11)
	reached, _ = blocks.Reach(h.c, h.l, 1, 11, 1)
	refs = blocks.Refs(h.c, h.l, b)
	blocks.Fill(h.c, 0, 11)
	sameList(t, "Walk's, later", walked, walkedAgain...)
	sameList(t, "Reach's, later", reached, reachedAgain...)
	sameList(t, "Refs', later", refs, refsAgain...)
}
