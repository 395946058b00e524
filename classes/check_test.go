package classes_test

import (
	"math"
	"slices"
	"testing"

	"ballast/api"
	"ballast/classes"
)

func same[T comparable](t *testing.T, what string, got, want T) {
	t.Helper()
	if got != want {
		t.Errorf("%s: %v, want %v", what, got, want)
	}
}

func sameList(t *testing.T, what string, got []int, want ...int) {
	t.Helper()
	if !slices.Equal(got, want) {
		t.Errorf("%s: %v, want %v", what, got, want)
	}
}

// some are classes as the chapter's examples have them.
func some() []api.Class {
	return []api.Class{{Refs: 2, Words: 1}, {Array: 1}, {Array: 2}}
}

// mayBe are classes that may be, at the chapter's edges.
func mayBe() []api.Class {
	return []api.Class{
		{}, {Refs: 1}, {Words: 1}, {Refs: 2, Words: 1},
		{Refs: 64}, {Words: 64}, {Refs: 63, Words: 1}, {Refs: 1, Words: 63}, {Refs: 32, Words: 32},
		{Array: 1}, {Array: 2},
	}
}

// mayNotBe are classes that may not be, each for one cause, and some for two.
func mayNotBe() []api.Class {
	return []api.Class{
		{Refs: 65}, {Words: 65}, {Refs: 64, Words: 1}, {Refs: 1, Words: 64}, {Refs: 33, Words: 32}, {Refs: 64, Words: 64},
		{Refs: -1}, {Words: -1}, {Refs: -1, Words: 1}, {Refs: 1, Words: -1}, {Refs: -1, Words: -1},
		{Refs: 65, Words: -1}, {Refs: -1, Words: 65},
		{Refs: math.MaxInt}, {Words: math.MaxInt}, {Refs: math.MinInt}, {Words: math.MinInt},
		{Refs: math.MaxInt, Words: 1}, {Refs: 1, Words: math.MaxInt}, {Refs: math.MaxInt, Words: math.MaxInt},
		{Refs: math.MaxInt, Words: math.MinInt}, {Refs: math.MinInt, Words: math.MinInt}, {Refs: math.MinInt, Words: math.MaxInt},
		{Array: 1, Refs: 1}, {Array: 1, Words: 1}, {Array: 1, Refs: -1}, {Array: 1, Words: -1}, {Array: 1, Refs: 1, Words: -1},
		{Array: 2, Refs: 1}, {Array: 2, Words: 1}, {Array: 2, Refs: -1}, {Array: 2, Words: -1}, {Array: 2, Refs: -1, Words: 1},
		{Array: 3}, {Array: 4}, {Array: -1}, {Array: math.MaxInt}, {Array: math.MinInt}, {Array: 3, Refs: 1, Words: 1}, {Array: -1, Refs: 1},
	}
}

// P3.1: each class by itself.
func TestCheckOfOne(t *testing.T) {
	for _, c := range mayBe() {
		if e := classes.Check(c); e != api.OK {
			t.Errorf("Check(%v): %d, want OK", c, e)
		}
	}
	for _, c := range mayNotBe() {
		if e := classes.Check(c); e != api.ErrClass {
			t.Errorf("Check(%v): %d, want ErrClass", c, e)
		}
	}
}

// P3.1: all small fields, held against the words 'a class may be'.
func TestCheckOfSmallFields(t *testing.T) {
	for array := -1; array <= 4; array++ {
		for refs := -2; refs <= 67; refs++ {
			for words := -2; words <= 67; words++ {
				isArray := array == 1 || array == 2
				fits := isArray && refs == 0 && words == 0 ||
					array == 0 && refs >= 0 && words >= 0 && refs+words <= 64
				want := api.ErrClass
				if fits {
					want = api.OK
				}
				c := api.Class{Refs: refs, Words: words, Array: array}
				if e := classes.Check(c); e != want {
					t.Fatalf("Check(%v): %d, want %d", c, e, want)
				}
			}
		}
	}
}

// P3.1, R1: there may be no classes, and up to 16.
func TestCheckOfHowMany(t *testing.T) {
	same(t, "Check()", classes.Check(), api.OK)
	var none []api.Class
	same(t, "Check of nil", classes.Check(none...), api.OK)
	same(t, "Check of an empty list", classes.Check([]api.Class{}...), api.OK)
	same(t, "Check of the examples'", classes.Check(some()...), api.OK)
	same(t, "Check of 15", classes.Check(make([]api.Class, 15)...), api.OK)
	same(t, "Check of 16", classes.Check(make([]api.Class, 16)...), api.OK)
	same(t, "Check of 17", classes.Check(make([]api.Class, 17)...), api.ErrClass)
	same(t, "Check of 100000", classes.Check(make([]api.Class, 100000)...), api.ErrClass)
	arrays := slices.Repeat([]api.Class{{Array: 1}}, 17)
	same(t, "Check of 16 arrays", classes.Check(arrays[:16]...), api.OK)
	same(t, "Check of 17 arrays", classes.Check(arrays...), api.ErrClass)
}

// P3.1: one that may not be among others that may, wherever it stands.
func TestCheckOfOneAmongOthers(t *testing.T) {
	for _, bad := range mayNotBe() {
		for _, n := range []int{2, 3, 16} {
			for at := range n {
				l := make([]api.Class, n)
				for i := range l {
					l[i] = mayBe()[i%len(mayBe())]
				}
				same(t, "Check of those that may", classes.Check(l...), api.OK)
				l[at] = bad
				if e := classes.Check(l...); e != api.ErrClass {
					t.Errorf("Check of %d, with %v at %d: %d, want ErrClass", n, bad, at, e)
				}
			}
		}
	}
}

// R3: the list that is handed in stays as it is.
func TestClassesStayAsTheyAre(t *testing.T) {
	l := append(some(), api.Class{Array: 3}, api.Class{Refs: -1})
	ahead := slices.Clone(l)
	classes.Check(l...)
	for class := range len(l) + 2 {
		classes.Size(l, class, 2)
		classes.Ref(l, class, 2, 1)
		classes.Refs(l, class, 2)
	}
	if !slices.Equal(l, ahead) {
		t.Errorf("the classes: %v, want %v", l, ahead)
	}
}
