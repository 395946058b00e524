package classes_test

import (
	"math"
	"testing"

	"ballast/api"
	"ballast/classes"
)

// far are words that no object has.
func far() []int {
	return []int{-1, -2, 65536, 65537, 1 << 32, math.MaxInt, math.MinInt}
}

// holdRefs holds Ref and Refs against how many references there are, which all
// stand right behind the header.
func holdRefs(t *testing.T, l []api.Class, class, length, refs int) {
	t.Helper()
	var want []int
	for word := range 1100 {
		is := word >= 1 && word <= refs
		if is {
			want = append(want, word)
		}
		if got := classes.Ref(l, class, length, word); got != is {
			t.Errorf("Ref of %d, %d, word %d: %v, want %v", class, length, word, got, is)
		}
	}
	for _, word := range far() {
		if classes.Ref(l, class, length, word) {
			t.Errorf("Ref of %d, %d, word %d: true, want false", class, length, word)
		}
	}
	sameList(t, "Refs", classes.Refs(l, class, length), want...)
}

// P3.4: the chapter's examples.
func TestRefsOfTheExamples(t *testing.T) {
	l := some()
	sameList(t, "Refs of 1, 0", classes.Refs(l, 1, 0), 1, 2)
	sameList(t, "Refs of 2, 3", classes.Refs(l, 2, 3), 1, 2, 3)
	sameList(t, "Refs of 3, 3", classes.Refs(l, 3, 3))
}

// P3.4: an object's references stand behind its header, ahead of its words.
func TestRefsOfObjects(t *testing.T) {
	for _, c := range mayBe() {
		if c.Array == 0 {
			holdRefs(t, []api.Class{c}, 1, 0, c.Refs)
		}
	}
}

// P3.4: an array's elements are references, or none is; a filler's words are none.
func TestRefsOfArraysAndFillers(t *testing.T) {
	l := some()
	for _, length := range []int{0, 1, 2, 7, 1023, 1024} {
		holdRefs(t, l, 2, length, length)
		holdRefs(t, l, 3, length, 0)
		holdRefs(t, l, 0, length, 0)
	}
	holdRefs(t, l, 0, 65535, 0)
	holdRefs(t, nil, 0, 4, 0)
}

// P3.4: word 0, the last reference, the last word, and those beside them.
func TestRefAtTheEdges(t *testing.T) {
	l := some()
	for _, k := range []struct {
		class, length, word int
		want                bool
	}{
		{1, 0, -1, false}, {1, 0, 0, false}, {1, 0, 1, true}, {1, 0, 2, true}, {1, 0, 3, false}, {1, 0, 4, false},
		{2, 3, -1, false}, {2, 3, 0, false}, {2, 3, 1, true}, {2, 3, 3, true}, {2, 3, 4, false},
		{2, 1024, 1024, true}, {2, 1024, 1025, false}, {2, 0, 0, false}, {2, 0, 1, false},
		{3, 3, 0, false}, {3, 3, 1, false}, {3, 3, 3, false}, {3, 3, 4, false},
		{0, 3, 0, false}, {0, 3, 1, false}, {0, 3, 3, false}, {0, 3, 4, false},
	} {
		if got := classes.Ref(l, k.class, k.length, k.word); got != k.want {
			t.Errorf("Ref of %d, %d, word %d: %v, want %v", k.class, k.length, k.word, got, k.want)
		}
	}
}

// P3.4: there are no references where Size tells an error.
func TestRefsWhereSizeTellsAnError(t *testing.T) {
	l := some()
	for _, k := range [][2]int{
		{1, 1}, {1, -1}, {1, math.MaxInt}, {1, math.MinInt},
		{2, -1}, {2, 1025}, {2, math.MaxInt}, {2, math.MinInt},
		{3, -1}, {3, 1025}, {0, -1}, {0, 65536}, {0, math.MaxInt},
		{4, 0}, {4, 1}, {-1, 0}, {-1, 1}, {math.MaxInt, 1}, {math.MinInt, 1},
	} {
		if _, errno := classes.Size(l, k[0], k[1]); errno == api.OK {
			t.Errorf("Size of %v: OK", k)
		}
		holdRefs(t, l, k[0], k[1], 0)
	}
	holdRefs(t, nil, 1, 0, 0)
	for _, bad := range mayNotBe() {
		for _, length := range []int{0, 1, -1} {
			holdRefs(t, []api.Class{bad}, 1, length, 0)
		}
	}
}

// P3.4: a list that is longer than Check has it still has references, as it has sizes.
func TestRefsOfALongList(t *testing.T) {
	l := make([]api.Class, 20)
	l[16], l[19] = api.Class{Array: 1}, api.Class{Refs: 5, Words: 5}
	holdRefs(t, l, 17, 3, 3)
	holdRefs(t, l, 18, 0, 0)
	holdRefs(t, l, 20, 0, 5)
	holdRefs(t, l, 21, 0, 0)
}

// R3: what Refs told is its owner's, from then on.
func TestRefsAreTheirOwners(t *testing.T) {
	l := some()
	first, second := classes.Refs(l, 1, 0), classes.Refs(l, 1, 0)
	first[0] = 9
	_ = append(first, 8)
	sameList(t, "another answer", second, 1, 2)
	l[0] = api.Class{Array: 2}
	sameList(t, "an answer later", second, 1, 2)
	sameList(t, "a new answer", classes.Refs(some(), 1, 0), 1, 2)
}
