package tests

import (
	"math"
	"slices"
	"testing"

	"loop.example/s01681/impl"
)

// checkSameTypes asks for all pairs of a valid list: the same are those that stand in one of the groups, and each with
// itself.
func checkSameTypes(t *testing.T, text string, groups ...[]int) {
	t.Helper()
	ts := typeList(text)
	if !typesOk(t, ts) {
		t.Errorf("%s: not valid", text)
	}
	for a := range ts {
		for b := range ts {
			inOne := slices.ContainsFunc(groups, func(group []int) bool { return slices.Contains(group, a) && slices.Contains(group, b) })
			if got := sameTypes(t, ts, a, b); got != (a == b || inOne) {
				t.Errorf("%s: that %d and %d are the same is %v", text, a, b, got)
			}
		}
	}
	for _, a := range noTypes(len(ts)) {
		if sameTypes(t, ts, a, a) || sameTypes(t, ts, a, 0) || sameTypes(t, ts, 0, a) || sameTypes(t, ts, a, len(ts)-1) {
			t.Errorf("%s: a type %d, which is none, is the same as another", text, a)
		}
	}
}

func TestSameTypesByHand(t *testing.T) {
	checkSameTypes(t, "void; char; uchar; short; ushort; int; uint")
	checkSameTypes(t, "int; int; void; char; void; int; char", []int{0, 1, 5}, []int{2, 4}, []int{3, 6})
	checkSameTypes(t, oneOfEach, []int{0, 2})

	// Structs and unions that are alike, or have nothing, at several positions.
	checkSameTypes(t, "struct; struct; union; union")
	checkSameTypes(t, "int; struct a:0; struct a:0; union a:0; union a:0; struct a:1; struct a:2")
	checkSameTypes(t, "struct a:1; int; struct a:1; int", []int{1, 3})

	// Pointers.
	checkSameTypes(t, "int; uint; ptr 0; ptr 0; ptr 1; ptr 2; ptr 3; ptr 5; ptr 6; ptr 4", []int{2, 3}, []int{5, 6}, []int{7, 8})
	checkSameTypes(t, "int; int; ptr 0; ptr 1; ptr 2; ptr 3", []int{0, 1}, []int{2, 3}, []int{4, 5})
	checkSameTypes(t, "void; ptr 0; ptr 1; ptr 2; ptr 3")
	checkSameTypes(t, "struct; struct; ptr 0; ptr 1; ptr 0; ptr 1; ptr 2; ptr 4; ptr 3", []int{2, 4}, []int{3, 5}, []int{6, 7})
	checkSameTypes(t, "struct; union; ptr 0; ptr 1")
	checkSameTypes(t, "ptr 4; ptr 5; ptr 4; ptr 5; struct; struct; ptr 4; ptr 0; ptr 6", []int{0, 2, 6}, []int{1, 3}, []int{7, 8})

	// Pointers to structs that lead back to them.
	checkSameTypes(t, "struct a:1; ptr 0; struct a:3; ptr 2; ptr 0; ptr 1; ptr 4", []int{1, 4}, []int{5, 6})
	checkSameTypes(t, "ptr 1; struct a:0; ptr 3; struct a:2; ptr 1; ptr 3", []int{0, 4}, []int{2, 5})
	checkSameTypes(t, "ptr 1; struct a:2; ptr 3; struct a:0; ptr 3; ptr 1", []int{0, 5}, []int{2, 4})

	// Arrays.
	checkSameTypes(t, "int; arr 3 0; arr 4 0; arr 3 0; arr 1 0; arr 2 1; arr 2 3; arr 2 2; arr 3 1; uint; arr 3 9", []int{1, 3}, []int{5, 6})
	checkSameTypes(t, "int; arr 2 0; arr 6 0; arr 3 1; arr 2 2; arr 12 0; arr 2 3")
	checkSameTypes(t, "int; struct a:0; struct a:0; arr 3 1; arr 3 2; arr 3 1", []int{3, 5})
	checkSameTypes(t, "char; arr 3 0; ptr 0; ptr 1; arr 3 2; arr 3 0; ptr 5; ptr 0; arr 3 7", []int{1, 5}, []int{3, 6}, []int{2, 7}, []int{4, 8})

	// Functions: of other results, with more or fewer params, with others in another order.
	checkSameTypes(t, "void; int; char; fun 0; fun 1; fun 0 1; fun 0 1 1; fun 0 2; fun 0 1 2; fun 0 2 1; fun 1 1; fun 2 1")
	checkSameTypes(t, "void; int; fun 0; fun 0; fun 0 1; fun 0 1; fun 1 1 1; fun 1 1 1; fun 1 1 1 1", []int{2, 3}, []int{4, 5}, []int{6, 7})
	checkSameTypes(t, "void; int; int; ptr 1; ptr 2; fun 1 3; fun 2 4; fun 1 4; fun 2 3; ptr 5; ptr 8; fun 0 9; fun 0 10", []int{1, 2}, []int{3, 4}, []int{5, 6, 7, 8}, []int{9, 10}, []int{11, 12})
	checkSameTypes(t, "void; int; fun 0 1 1 1 1 1 1 1 1; fun 0 1 1 1 1 1 1 1 1; fun 0 1 1 1 1 1 1 1; uint; fun 0 1 1 1 1 1 1 1 5", []int{2, 3})
	// Positions of 0 in front and no param, or a param at 0: the number of params tells them apart.
	checkSameTypes(t, "int; fun 0; fun 0 0; fun 0 0 0; fun 0 0 0 0; fun 0 0 0 0 0 0 0 0 0")
	checkSameTypes(t, "int; ptr 0; arr 1 0; arr 2 0; fun 0")
	checkSameTypes(t, "struct; ptr 0; fun 1; ptr 1; struct; ptr 4; fun 5; ptr 5; fun 1 5; fun 5 1")
}

// Two lists of functions that are alike, one behind the other: each has many params that are pointers to the one in
// front. Holding all that they are made of against each other would not end.
func TestSameTypesFarDown(t *testing.T) {
	for _, last := range []string{"int", "uint"} {
		ts := typeList("int; " + last)
		for i := range (impl.MaxTypes - 2) / 2 {
			kind, count := impl.TypeFun, impl.MaxParams+1
			if i%2 == 1 {
				kind, count = impl.TypePtr, 1
			}
			ts = append(ts, impl.Type{K: kind, Of: slices.Repeat([]int{2 * i}, count)}, impl.Type{K: kind, Of: slices.Repeat([]int{2*i + 1}, count)})
		}
		for _, at := range []int{0, 2, 4, 100, 1000, 1996, 1998} {
			if got := sameTypes(t, ts, at, at+1); got != (last == "int") {
				t.Errorf("%s: that %d and %d are the same is %v", last, at, at+1, got)
			}
			if sameTypes(t, ts, at, (at+4)%2000) || sameTypes(t, ts, at+1, (at+2)%2000) {
				t.Errorf("%s: %d is the same as another", last, at)
			}
		}
	}
}

func TestSameTypesOfListsThatAreNotValid(t *testing.T) {
	for _, text := range []string{"int; int; ptr", "int; int; struct a:2", "int; int; arr 0 0", "none; int; int", "int; int; fun 0 a:1"} {
		for a := range 3 {
			for b := range 3 {
				if sameTypes(t, typeList(text), a, b) {
					t.Errorf("%s: %d and %d are the same", text, a, b)
				}
			}
		}
	}
	if sameTypes(t, slices.Repeat(typeList("int"), impl.MaxTypes+1), 0, 0) || !sameTypes(t, slices.Repeat(typeList("int"), impl.MaxTypes), 0, 1999) {
		t.Errorf("with many types")
	}
	for _, at := range []int{math.MinInt, -1, 1, math.MaxInt} {
		if sameTypes(t, typeList("int"), at, at) || sameTypes(t, typeList("int"), 0, at) || sameTypes(t, typeList("int"), at, 0) {
			t.Errorf("position %d", at)
		}
	}
}
