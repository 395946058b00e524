package classes_test

import (
	"math"
	"slices"
	"testing"

	"ballast/api"
	"ballast/classes"
)

// told holds what Size or Sum told.
type told struct {
	n     int
	errno api.Errno
}

func size(l []api.Class, class, length int) told {
	n, errno := classes.Size(l, class, length)
	return told{n, errno}
}

func sum(sizes ...int) told {
	n, errno := classes.Sum(sizes...)
	return told{n, errno}
}

var (
	errClass = told{0, api.ErrClass}
	errSize  = told{0, api.ErrSize}
)

// sized is what an object is asked for, and how many words it has.
type sized struct {
	class, length int
	want          told
}

func holdSizes(t *testing.T, l []api.Class, asked []sized) {
	t.Helper()
	for _, k := range asked {
		if got := size(l, k.class, k.length); got != k.want {
			t.Errorf("Size of %d, %d: %v, want %v", k.class, k.length, got, k.want)
		}
	}
}

// P3.2: the chapter's examples.
func TestSizeOfTheExamples(t *testing.T) {
	holdSizes(t, some(), []sized{
		{1, 0, told{4, 0}}, {2, 5, told{6, 0}}, {0, 0, told{1, 0}},
		{1, 3, errSize}, {2, 1025, errSize}, {4, 0, errClass},
	})
}

// P3.2: lengths, by kind.
func TestSizeByLength(t *testing.T) {
	holdSizes(t, some(), []sized{
		{1, 0, told{4, 0}}, {1, 1, errSize}, {1, -1, errSize},
		{1, math.MaxInt, errSize}, {1, math.MinInt, errSize},
		{2, 0, told{1, 0}}, {2, 1, told{2, 0}}, {2, 1024, told{1025, 0}},
		{2, 1025, errSize}, {2, -1, errSize}, {2, 65535, errSize},
		{2, math.MaxInt, errSize}, {2, math.MinInt, errSize},
		{3, 0, told{1, 0}}, {3, 1, told{2, 0}}, {3, 1024, told{1025, 0}},
		{3, 1025, errSize}, {3, -1, errSize}, {3, 65535, errSize},
		{3, math.MaxInt, errSize}, {3, math.MinInt, errSize},
		{0, 0, told{1, 0}}, {0, 1, told{2, 0}}, {0, 1024, told{1025, 0}}, {0, 1025, told{1026, 0}},
		{0, 65534, told{65535, 0}}, {0, 65535, told{65536, 0}}, {0, 65536, errSize}, {0, -1, errSize},
		{0, math.MaxInt, errSize}, {0, math.MinInt, errSize},
	})
}

// P3.2: an object has its header, its references and its words.
func TestSizeByFields(t *testing.T) {
	for refs := range 65 {
		for words := range 65 - refs {
			l := []api.Class{{Refs: refs, Words: words}}
			if got, want := size(l, 1, 0), (told{1 + refs + words, 0}); got != want {
				t.Fatalf("Size of %v: %v, want %v", l[0], got, want)
			}
			if got := size(l, 1, 1); got != errSize {
				t.Fatalf("Size of %v, 1: %v, want ErrSize", l[0], got)
			}
		}
	}
}

// P3.2: classes are numbered from 1 to len(l), and 0 is the filler's.
func TestSizeByClass(t *testing.T) {
	l := some()
	holdSizes(t, l, []sized{
		{-1, 0, errClass}, {math.MinInt, 0, errClass},
		{0, 0, told{1, 0}}, {1, 0, told{4, 0}}, {2, 0, told{1, 0}}, {3, 0, told{1, 0}},
		{4, 0, errClass}, {math.MaxInt, 0, errClass},
	})
	for _, none := range [][]api.Class{nil, {}, l[:0]} {
		holdSizes(t, none, []sized{{0, 7, told{8, 0}}, {1, 0, errClass}, {-1, 0, errClass}})
	}
}

// P3.2: a list that is longer than Check has it still has sizes.
func TestSizeOfALongList(t *testing.T) {
	l := slices.Repeat([]api.Class{{Words: 1}}, 20)
	l[16] = api.Class{Array: 2}
	l[19] = api.Class{Refs: 5}
	holdSizes(t, l, []sized{
		{16, 0, told{2, 0}}, {17, 9, told{10, 0}}, {18, 0, told{2, 0}}, {20, 0, told{6, 0}}, {21, 0, errClass},
	})
}

// P3.2: a class that may not be has no size; its neighbours have.
func TestSizeOfAClassThatMayNotBe(t *testing.T) {
	for _, bad := range mayNotBe() {
		l := []api.Class{{Refs: 2, Words: 1}, bad, {Array: 1}}
		for _, length := range []int{0, 1, -1, 1024, 65535, 65536, math.MaxInt, math.MinInt} {
			if got := size(l, 2, length); got != errClass {
				t.Errorf("Size of %v, %d: %v, want ErrClass", bad, length, got)
			}
		}
		holdSizes(t, l, []sized{{0, 3, told{4, 0}}, {1, 0, told{4, 0}}, {3, 2, told{3, 0}}, {4, 0, errClass}})
	}
}

// P3.2, R2: ErrClass is named ahead of ErrSize.
func TestSizeTellsTheClassFirst(t *testing.T) {
	holdSizes(t, some(), []sized{
		{4, -1, errClass}, {4, 65536, errClass}, {-1, -1, errClass}, {-1, 65536, errClass},
		{math.MaxInt, math.MaxInt, errClass}, {math.MinInt, math.MinInt, errClass},
	})
}

// P3.2: the sum of sizes, and its bound.
func TestSum(t *testing.T) {
	for _, k := range []struct {
		sizes []int
		want  told
	}{
		{nil, told{0, 0}}, {[]int{}, told{0, 0}}, {[]int{0}, told{0, 0}}, {[]int{0, 0, 0}, told{0, 0}},
		{[]int{1}, told{1, 0}}, {[]int{1, 2, 3}, told{6, 0}}, {[]int{7, 0, 7}, told{14, 0}},
		{[]int{65535}, told{65535, 0}}, {[]int{65536}, told{65536, 0}}, {[]int{65537}, errSize},
		{[]int{65000, 536}, told{65536, 0}}, {[]int{65000, 536, 0}, told{65536, 0}}, {[]int{65000, 537}, errSize},
		{[]int{65536, 1}, errSize}, {[]int{1, 65536}, errSize}, {[]int{65536, 0, 1}, errSize}, {[]int{65537, 0}, errSize},
		{[]int{-1}, errSize}, {[]int{-1, 1}, errSize}, {[]int{1, -1}, errSize}, {[]int{5, -1, 5}, errSize},
		{[]int{65536, -1}, errSize}, {[]int{65537, -1}, errSize}, {[]int{-1, 65537}, errSize}, {[]int{5, 5, -10}, errSize},
		{[]int{math.MaxInt}, errSize}, {[]int{math.MinInt}, errSize},
		{[]int{math.MaxInt, 1}, errSize}, {[]int{1, math.MaxInt}, errSize},
		{[]int{math.MaxInt, math.MaxInt}, errSize}, {[]int{math.MaxInt, math.MaxInt, 2}, errSize},
		{[]int{2, math.MaxInt, math.MaxInt}, errSize}, {[]int{65536, math.MaxInt}, errSize},
		{[]int{math.MinInt, math.MinInt}, errSize}, {[]int{math.MinInt, math.MaxInt, 1}, errSize},
		{[]int{math.MaxInt, math.MinInt}, errSize},
	} {
		ahead := slices.Clone(k.sizes)
		if got := sum(k.sizes...); got != k.want {
			t.Errorf("Sum of %v: %v, want %v", ahead, got, k.want)
		}
		sameList(t, "the sizes, behind Sum", k.sizes, ahead...)
	}
}

// P3.2, R5: there is no bound to how many sizes there are.
func TestSumOfMany(t *testing.T) {
	same(t, "Sum of 65536 ones", sum(slices.Repeat([]int{1}, 65536)...), told{65536, 0})
	same(t, "Sum of 65537 ones", sum(slices.Repeat([]int{1}, 65537)...), errSize)
	same(t, "Sum of many zeros", sum(make([]int, 200000)...), told{0, 0})
	late := make([]int, 200000)
	late[199999] = -1
	same(t, "Sum of many zeros and -1", sum(late...), errSize)
}
