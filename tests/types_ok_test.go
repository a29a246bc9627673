package tests

import (
	"math"
	"slices"
	"strconv"
	"strings"
	"testing"

	"loop.example/s01681/impl"
)

// checkFit asks TypesOk, and when a list is not valid, that no other function finds anything in it.
func checkFit(t *testing.T, ts []impl.Type, want bool) {
	t.Helper()
	if got := typesOk(t, ts); got != want {
		t.Errorf("%.300s: valid is %v", typesText(ts), got)
	}
	if want {
		return
	}
	some := 13
	if len(ts) > 100 {
		some = 2
	}
	for i := range ts[:min(len(ts), some)] {
		if laidOut(t, ts, i) != (laid{}) || sameTypes(t, ts, i, i) {
			t.Errorf("%.300s: type %d of a list that is not valid is laid out, or the same as itself", typesText(ts), i)
		}
		for _, name := range append(slices.Clone(ts[i].Names[:min(len(ts[i].Names), 5)]), "a", "") {
			if got := fieldIn(t, ts, i, name); got != (fieldAt{}) {
				t.Errorf("%.300s: field %q of type %d of a list that is not valid: %v", typesText(ts), name, i, got)
			}
		}
	}
}

func fitAll(t *testing.T, want bool, texts ...string) {
	t.Helper()
	for _, text := range texts {
		checkFit(t, typeList(text), want)
	}
}

// oneOfEach has a valid type for each K, at the position that is its K, but for the first.
const oneOfEach = "char; void; char; uchar; short; ushort; int; uint; ptr 3; arr 2 8; struct a:9 b:3; union a:10 b:3; fun 1 6 8"

func TestTypesOfEachKind(t *testing.T) {
	checkFit(t, nil, true)
	checkFit(t, []impl.Type{}, true)
	ts := typeList(oneOfEach)
	checkFit(t, ts, true)
	for k := impl.TypeVoid; k <= impl.TypeFun; k++ {
		if ts[k].K != k {
			t.Fatalf("type %d is of the kind %d", k, ts[k].K)
		}
	}
	for k := impl.TypeVoid; k <= impl.TypeUInt; k++ {
		checkFit(t, []impl.Type{{K: k}}, true)
		checkFit(t, []impl.Type{{K: k, Of: []int{}, Names: []string{}}}, true)
	}
	fitAll(t, true, "struct", "union", "struct; struct; union; union", "void; void; void", "struct; ptr 0", "union; ptr 0; ptr 1")
}

func TestKindsOfTypesThatAreNone(t *testing.T) {
	for _, k := range []int{0, 13, -1, -12, 14, 100, 1<<32 + 2, 256 + 2, math.MinInt, math.MaxInt} {
		checkFit(t, []impl.Type{{K: k}}, false)
		for i := range typeList(oneOfEach) {
			ts := typeList(oneOfEach)
			ts[i].K = k
			checkFit(t, ts, false)
		}
		checkFit(t, append(typeList(oneOfEach), impl.Type{K: k}), false)
	}
}

func TestFieldsThatAKindHasNot(t *testing.T) {
	for i := range typeList(oneOfEach) {
		change := func(do func(one *impl.Type)) {
			t.Helper()
			ts := typeList(oneOfEach)
			do(&ts[i])
			checkFit(t, ts, false)
		}
		k := typeList(oneOfEach)[i].K
		if k != impl.TypeArr {
			for _, n := range []int{1, -1, 2, 60000, math.MinInt, math.MaxInt} {
				change(func(one *impl.Type) { one.N = n })
			}
		}
		if k < impl.TypePtr {
			change(func(one *impl.Type) { one.Of = []int{0} })
			change(func(one *impl.Type) { one.Of, one.Names = []int{0}, []string{"a"} })
		}
		if k != impl.TypeStruct && k != impl.TypeUnion {
			change(func(one *impl.Type) { one.Names = []string{"a"} })
			change(func(one *impl.Type) { one.Names = []string{""} })
			change(func(one *impl.Type) { one.Names = slices.Repeat([]string{"x"}, len(one.Of)+1) })
		}
	}
}

func TestPointersThatAreValidAndNot(t *testing.T) {
	for _, target := range []string{"void", "char", "int", "struct", "union", "struct a:1", "fun 1", "arr 9 1", "ptr 1"} {
		fitAll(t, true, "void; char; "+target+"; ptr 2")
		// What stands above may be a struct or a union, and nothing else.
		isRecord := strings.HasPrefix(target, "struct") || strings.HasPrefix(target, "union")
		fitAll(t, isRecord, "void; char; ptr 3; "+target, "void; char; ptr 5; int; ptr 0; "+target)
	}
	fitAll(t, false, "int; ptr", "int; ptr 0 0", "int; struct; ptr 0 1", "int; ptr 1", "ptr 0", "ptr 1; ptr 0", "int; ptr -1", "struct; ptr -1", "int; ptr 2", "struct; ptr 2", "ptr 1", "int; ptr a:0", "struct; ptr 0 0 0")
	for _, at := range noTypes(3) {
		checkFit(t, []impl.Type{{K: impl.TypeInt}, {K: impl.TypeStruct}, {K: impl.TypePtr, Of: []int{at}}}, false)
		checkFit(t, []impl.Type{{K: impl.TypePtr, Of: []int{at}}, {K: impl.TypeStruct}, {K: impl.TypeUnion}}, false)
	}
	fitAll(t, true, "ptr 1; struct a:0", "ptr 1; union a:0; ptr 0", "struct a:1; ptr 0")
}

func TestArraysThatAreValidAndNot(t *testing.T) {
	for target, want := range map[string]bool{
		"void": false, "struct": false, "union": false, "fun 0": false, "fun 1 1": false,
		"char": true, "uchar": true, "short": true, "ushort": true, "int": true, "uint": true, "ptr 0": true, "arr 60000 1": true, "struct a:1": true, "union a:1": true,
	} {
		fitAll(t, want, "void; char; "+target+"; arr 3 2", "void; char; "+target+"; int; ptr 3; arr 60000 2")
		fitAll(t, false, "void; char; arr 3 3; "+target, "void; char; arr 1 4; int; "+target)
	}
	for n, want := range map[int]bool{0: false, 1: true, 2: true, 59999: true, 60000: true, 60001: false, -1: false, -60000: false, math.MinInt: false, math.MaxInt: false, 1<<32 + 1: false, 1 << 31: false} {
		checkFit(t, []impl.Type{{K: impl.TypeInt}, {K: impl.TypeArr, N: n, Of: []int{0}}}, want)
	}
	fitAll(t, false, "int; arr 3", "int; arr 3 0 0", "int; arr 3 1", "arr 3 0", "int; arr 3 -1", "int; arr 3 2", "int; arr 3 2; int", "struct a:2; int; arr 3 0; arr 3 4; struct a:1", "int; arr 3 a:0")
	for _, at := range noTypes(2) {
		checkFit(t, []impl.Type{{K: impl.TypeInt}, {K: impl.TypeArr, N: 3, Of: []int{at}}}, false)
	}
}

// recordWords are the words for structs and unions.
var recordWords = []string{"struct", "union"}

func TestFieldsThatAreValidAndNot(t *testing.T) {
	for _, word := range recordWords {
		for target, want := range map[string]bool{
			"void": false, "struct": false, "union": false, "fun 0": false, "fun 1 1": false,
			"char": true, "uchar": true, "short": true, "ushort": true, "int": true, "uint": true, "ptr 0": true, "arr 60000 1": true, "struct a:1": true, "union a:1": true,
		} {
			fitAll(t, want, "void; char; "+target+"; "+word+" a:2", "void; char; "+word+" a:3; "+target)
			fitAll(t, want, "void; char; "+target+"; "+word+" b:1 a:2", "void; char; "+word+" a:3 b:1; "+target, "void; char; "+word+" a:1 b:3 c:1; "+target)
		}
		for _, at := range noTypes(2) {
			checkFit(t, []impl.Type{{K: impl.TypeInt}, {K: slices.Index(typeWords, word), Of: []int{at}, Names: []string{"a"}}}, false)
			checkFit(t, []impl.Type{{K: impl.TypeInt}, {K: slices.Index(typeWords, word), Of: []int{0, at}, Names: []string{"a", "b"}}}, false)
		}
	}
}

// recordOf makes a list of an int and of a struct or union that has fields of this type.
func recordOf(word string, fields int, names ...string) []impl.Type {
	return []impl.Type{{K: impl.TypeInt}, {K: slices.Index(typeWords, word), Of: make([]int, fields), Names: names}}
}

func TestHowManyFields(t *testing.T) {
	names := []string{}
	for i := range impl.MaxFields + 2 {
		names = append(names, "n"+strconv.Itoa(i))
	}
	for _, word := range recordWords {
		for _, fields := range []int{0, 1, 2, 50, impl.MaxFields - 1, impl.MaxFields, impl.MaxFields + 1} {
			checkFit(t, recordOf(word, fields, names[:fields]...), fields <= impl.MaxFields)
			checkFit(t, recordOf(word, fields, names[:fields+1]...), false)
			if fields > 0 {
				checkFit(t, recordOf(word, fields, names[:fields-1]...), false)
				checkFit(t, recordOf(word, fields), false)
			}
		}
		checkFit(t, recordOf(word, 100000, names...), false)
	}
}

func TestNamesOfFields(t *testing.T) {
	for _, word := range recordWords {
		fitAll(t, true, "int; "+word+" a:0 b:0 c:0", "int; "+word+" a:0 A:0 _:0 aa:0 a_:0 a1:0", "int; "+word+" Int:0 INT:0 ints:0 in:0 nt:0", "int; struct a:0; union a:0; struct a:1 b:2")
		fitAll(t, false, "int; "+word+" a:0 a:0", "int; "+word+" a:0 b:0 a:0", "int; "+word+" b:0 a:0 a:0", "int; char; "+word+" a:0 a:1", "int; "+word+" a:0 b:0 c:0 d:0 e:0 f:0 b:0")
		long := strings.Repeat("y", impl.MaxName)
		for _, name := range []string{"a", "Z", "_", "__", "x9", "u", "long", "main", "putchar", "static", "_0", "sizeo", "sizeofx", long, long[1:], long[2:] + "_9"} {
			checkFit(t, recordOf(word, 1, name), true)
			checkFit(t, recordOf(word, 3, "q", name, "r"), true)
		}
		bad := append(strings.Fields(keyWords), "", "0", "9a", "0x1", "1", " ", " a", "a ", "a b", "a\n", "\ta", "a\x00", "\x00", "a-b", "a.b", "a,b", "(a)", "a;", "*a", "a[]", "\"a\"", "'a'", "é", "aé", "a\xff", "\x80", "𝒳", "a/**/", "//", long+"y", long+"_", strings.Repeat("a", 100000))
		for _, name := range bad {
			checkFit(t, recordOf(word, 1, name), false)
			checkFit(t, recordOf(word, 3, "q", name, "r"), false)
		}
		for b := range 256 {
			letter := string([]byte{byte(b)})
			isLetter := strings.Contains("abcdefghijklmnopqrstuvwxyzABCDEFGHIJKLMNOPQRSTUVWXYZ_", letter)
			isDigit := strings.Contains("0123456789", letter)
			checkFit(t, recordOf(word, 1, letter), isLetter)
			checkFit(t, recordOf(word, 1, "x"+letter), isLetter || isDigit)
			checkFit(t, recordOf(word, 1, letter+"x"), isLetter)
			checkFit(t, recordOf(word, 1, "x"+letter+"x"), isLetter || isDigit)
		}
	}
}

func TestFunctionsThatAreValidAndNot(t *testing.T) {
	for part, want := range map[string]struct{ result, param bool }{
		"void": {true, false}, "struct": {}, "union": {}, "struct a:1": {}, "union a:1": {}, "arr 2 1": {}, "fun 0": {}, "fun 1 1": {},
		"char": {true, true}, "uchar": {true, true}, "short": {true, true}, "ushort": {true, true}, "int": {true, true}, "uint": {true, true}, "ptr 0": {true, true}, "ptr 1": {true, true},
	} {
		fitAll(t, want.result, "void; char; "+part+"; fun 2", "void; char; "+part+"; fun 2 1 1")
		fitAll(t, want.param, "void; char; "+part+"; fun 0 2", "void; char; "+part+"; fun 1 2", "void; char; "+part+"; fun 1 1 2", "void; char; "+part+"; fun 0 2 1")
		fitAll(t, false, "void; char; fun 3; "+part, "void; char; fun 0 3; "+part, "void; char; fun 1 1 1 3; "+part)
	}
	for params := range impl.MaxParams + 4 {
		fitAll(t, params <= impl.MaxParams, "void; int; fun 0"+strings.Repeat(" 1", params), "void; int; fun 1"+strings.Repeat(" 1", params))
	}
	fitAll(t, false, "void; fun", "fun", "fun 0", "void; fun 1", "void; fun -1", "void; fun 2", "void; int; fun 0 2", "void; int; fun 0 1 2", "void; int; fun 0 -1", "void; int; fun 0 3", "void; int; fun 0 a:1", "void; int; fun 0"+strings.Repeat(" 1", 100))
	for _, at := range noTypes(3) {
		checkFit(t, []impl.Type{{K: impl.TypeVoid}, {K: impl.TypeInt}, {K: impl.TypeFun, Of: []int{at}}}, false)
		checkFit(t, []impl.Type{{K: impl.TypeVoid}, {K: impl.TypeInt}, {K: impl.TypeFun, Of: []int{0, 1, at}}}, false)
	}
}

func TestHowManyTypes(t *testing.T) {
	for _, kind := range []int{impl.TypeVoid, impl.TypeInt, impl.TypeStruct, impl.TypeUnion} {
		for _, count := range []int{1, 1999, impl.MaxTypes, impl.MaxTypes + 1, 20000} {
			checkFit(t, slices.Repeat([]impl.Type{{K: kind}}, count), count <= impl.MaxTypes)
		}
	}
	checkFit(t, nested(impl.TypeStruct, impl.MaxTypes-1, 3, true), true)
	checkFit(t, nested(impl.TypeStruct, impl.MaxTypes-1, 3, false), true)
	checkFit(t, nested(impl.TypeStruct, impl.MaxTypes, 3, true), false)
	checkFit(t, nested(impl.TypeStruct, impl.MaxTypes, 3, false), false)
	pointers := typeList("struct")
	for i := range impl.MaxTypes - 1 {
		pointers = append(pointers, impl.Type{K: impl.TypePtr, Of: []int{i}})
	}
	checkFit(t, pointers, true)
	// One that is not valid, in front, between or at the end.
	for _, i := range []int{0, 1, 1000, 1998, 1999} {
		ts := slices.Clone(pointers)
		ts[i] = impl.Type{K: impl.TypeArr, N: 1, Of: []int{i}}
		checkFit(t, ts, false)
	}
}

func TestTypesWithinThemselves(t *testing.T) {
	for _, one := range recordWords {
		for _, two := range recordWords {
			fitAll(t, false,
				one+" a:0",
				"int; "+one+" a:0 b:1", "int; "+one+" a:1 b:0", "int; "+one+" a:0 b:0 c:0 d:1",
				one+" a:1; "+two+" a:0",
				"int; "+one+" a:0 b:2; "+two+" a:1 b:0",
				one+" a:1; "+two+" a:2; "+one+" a:0",
				one+" a:1; "+two+" a:2; "+one+" a:3; "+two+" a:1",
				"int; "+one+" a:0 b:0 c:2; "+two+" a:3 b:3; "+one+" x:0 y:1",
				// Through arrays, of arrays and below or above.
				one+" a:1; arr 2 0",
				one+" a:2; arr 1 0; arr 1 1",
				one+" a:3; arr 9 0; "+two+" a:1; arr 9 2",
				"int; "+one+" a:0 b:3; arr 2 1; arr 2 2",
				// It stands beside such, and is not one itself.
				"int; "+one+" a:2; "+two+" a:2",
				"int; "+one+" a:0; "+two+" a:3; "+one+" a:2",
				// By another way it ends.
				"int; "+one+" a:0 b:2; "+two+" a:0 b:1 c:0")
			fitAll(t, true,
				one+" a:1; ptr 0",
				"int; "+one+" a:0 b:2; ptr 1",
				"ptr 1; "+one+" a:0",
				one+" a:2; "+two+" a:3; ptr 1; ptr 0",
				one+" a:1; "+two+" a:3; int; ptr 0; ptr 1",
				one+" a:2; ptr 0; arr 4 1",
				one+" a:3; ptr 0; fun 1 1 1; ptr 2",
				one+" a:1; ptr 0; ptr 1; arr 3 0; ptr 3",
				// It stands twice in another, side by side and by two ways.
				"int; "+one+" a:0; "+two+" a:1 b:1",
				"int; "+one+" a:0; "+two+" a:1; "+two+" a:1 b:2; arr 2 3; "+one+" a:1 b:2 c:3 d:4",
				// Fields above.
				one+" a:1; "+two+" a:2; "+one+" a:3; int",
				one+" a:1 b:2; "+two+" a:2 b:3; "+one+" a:3 b:4; int; char",
				one+" a:3; int; "+two+" a:1; arr 2 2; arr 2 0")
		}
	}
}

// Chains of many, whose innermost has one of those around it as a field.
func TestLongWaysWithinThemselves(t *testing.T) {
	for _, count := range []int{1, 2, 3, 10, 500, impl.MaxTypes - 1} {
		for _, turned := range []bool{false, true} {
			for _, kind := range []int{impl.TypeStruct, impl.TypeUnion} {
				ts := nested(kind, count, 2, turned)
				checkFit(t, ts, true)
				inner, step := 1, 1
				if turned {
					inner, step = count-1, -1
				}
				for _, around := range []int{0, count / 2, count - 1} {
					ring := slices.Clone(ts)
					ring[inner].Of = []int{ts[inner].Of[0], inner + step*around}
					checkFit(t, ring, false)
				}
			}
		}
	}
}

// Ways that come together and part again and again: going through each way would not end.
func TestManyWaysWithinTypes(t *testing.T) {
	ts := typeList("int")
	for i := range 600 {
		ts = append(ts, impl.Type{K: impl.TypeStruct + i%2, Of: []int{max(i-1, 0), i, max(i-2, 0), i}, Names: []string{"a", "b", "c", "d"}})
	}
	checkFit(t, ts, true)
	slices.Reverse(ts)
	for i := range ts {
		for k, of := range ts[i].Of {
			ts[i].Of[k] = len(ts) - 1 - of
		}
	}
	checkFit(t, ts, true)
	ts[599].Of[0] = 0
	checkFit(t, ts, false)
}
