package tests

import (
	"math"
	"slices"
	"strconv"
	"strings"
	"testing"

	"loop.example/s01681/impl"
)

// typeWords are the kinds of types, each at its K.
var typeWords = strings.Fields("none void char uchar short ushort int uint ptr arr struct union fun")

// typeList reads types with ; between them, each written as a word for its K, the N of an array, and positions. In a
// struct or union a name and a colon stand in front of each position.
func typeList(text string) []impl.Type {
	ts := []impl.Type{}
	for one := range strings.SplitSeq(text, ";") {
		ts = append(ts, typeFrom(strings.Fields(one)))
	}
	return ts
}

func typeFrom(words []string) impl.Type {
	out := impl.Type{K: slices.Index(typeWords, words[0])}
	rest := words[1:]
	if words[0] == "arr" {
		out.N, rest = number(rest[0]), rest[1:]
	}
	for _, word := range rest {
		if word, of, ok := strings.Cut(word, ":"); ok {
			out.Names, out.Of = append(out.Names, word), append(out.Of, number(of))
			continue
		}
		out.Of = append(out.Of, number(word))
	}
	return out
}

func number(text string) int {
	n, err := strconv.Atoi(text)
	if err != nil {
		panic("no number: " + text)
	}
	return n
}

// typesText is the notation that typeList reads, as far as a list can be written in it.
func typesText(ts []impl.Type) string {
	out := []string{}
	for _, one := range ts[:min(len(ts), 30)] {
		word := "K" + strconv.Itoa(one.K)
		if one.K > 0 && one.K < len(typeWords) {
			word = typeWords[one.K]
		}
		if one.N != 0 || one.K == impl.TypeArr {
			word += " " + strconv.Itoa(one.N)
		}
		for i, of := range one.Of[:min(len(one.Of), 12)] {
			word += " "
			if i < len(one.Names) {
				word += one.Names[i] + ":"
			}
			word += strconv.Itoa(of)
		}
		out = append(out, word)
	}
	return strings.Join(out, "; ")
}

func roomyTypes(ts []impl.Type) []impl.Type {
	out := roomy(ts)
	for i, one := range out {
		out[i].Of, out[i].Names = roomy(one.Of), roomy(one.Names)
	}
	return out
}

func equalTypes(a, b impl.Type) bool {
	return a.K == b.K && a.N == b.N && slices.Equal(a.Of[:cap(a.Of)], b.Of[:cap(b.Of)]) && slices.Equal(a.Names[:cap(a.Names)], b.Names[:cap(b.Names)])
}

// unwritten hands a list in with room behind all of its lists, and asks that it is as it was behind the call.
func unwritten[A any](t *testing.T, ts []impl.Type, call func(given []impl.Type) A) A {
	t.Helper()
	given, kept := roomyTypes(ts), roomyTypes(ts)
	answer := call(given)
	if !slices.EqualFunc(given[:cap(given)], kept[:cap(kept)], equalTypes) {
		t.Errorf("a list was written into: %.200s", typesText(ts))
	}
	return answer
}

func typesOk(t *testing.T, ts []impl.Type) bool {
	t.Helper()
	return unwritten(t, ts, impl.TypesOk)
}

// laid is a size and an alignment.
type laid struct{ size, align int }

func laidOut(t *testing.T, ts []impl.Type, i int) laid {
	t.Helper()
	return unwritten(t, ts, func(given []impl.Type) laid { return laid{impl.SizeOf(given, i), impl.AlignOf(given, i)} })
}

// fieldAt is what FieldOf answers.
type fieldAt struct {
	offset, of int
	ok         bool
}

func fieldIn(t *testing.T, ts []impl.Type, i int, name string) fieldAt {
	t.Helper()
	return unwritten(t, ts, func(given []impl.Type) fieldAt {
		offset, of, ok := impl.FieldOf(given, i, name)
		return fieldAt{offset, of, ok}
	})
}

func sameTypes(t *testing.T, ts []impl.Type, a, b int) bool {
	t.Helper()
	return unwritten(t, ts, func(given []impl.Type) bool { return impl.SameType(given, a, b) })
}

// noTypes are positions that a list of some length does not have.
func noTypes(length int) []int {
	return []int{-1, -2, -length, length, length + 1, 2 * length, impl.MaxTypes, math.MinInt, math.MaxInt, 1 << 32, -(1 << 32)}
}

// checkLaid asks for the size and alignment of each type of a valid list, written as size:align with blanks between.
func checkLaid(t *testing.T, text string, want string) {
	t.Helper()
	ts := typeList(text)
	if !typesOk(t, ts) {
		t.Errorf("%s: not valid", text)
	}
	pairs := strings.Fields(want)
	if len(pairs) != len(ts) {
		t.Fatalf("%s: %d types and %d sizes", text, len(ts), len(pairs))
	}
	for i, pair := range pairs {
		size, align, _ := strings.Cut(pair, ":")
		if got := laidOut(t, ts, i); got != (laid{number(size), number(align)}) {
			t.Errorf("%s: type %d is %v, not %s", text, i, got, pair)
		}
	}
	for _, i := range noTypes(len(ts)) {
		if got := laidOut(t, ts, i); got != (laid{}) {
			t.Errorf("%s: the type %d, which is none, is %v", text, i, got)
		}
	}
}

func TestSizesByHand(t *testing.T) {
	for text, want := range map[string]string{
		"void; char; uchar; short; ushort; int; uint; ptr 0": "0:0 1:1 1:1 2:2 2:2 4:4 4:4 4:4",
		"void; int; fun 0; fun 1 1 1; ptr 2; ptr 4":          "0:0 4:4 0:0 0:0 4:4 4:4",
		"struct; union; ptr 0; ptr 1":                        "0:0 0:0 4:4 4:4",
		"char; short; int; ptr 2; arr 5 0; arr 5 1; arr 5 2": "1:1 2:2 4:4 4:4 5:1 10:2 20:4",

		// Arrays of arrays, and of pointers.
		"short; arr 3 0; arr 4 1; arr 5 2; ptr 3; arr 7 4": "2:2 6:2 24:2 120:2 4:4 28:4",
		"char; arr 1 0; arr 1 1":                           "1:1 1:1 1:1",

		// No gap, gaps between, a gap at the end, gaps of each width.
		"int; struct a:0":                            "4:4 4:4",
		"char; struct a:0 b:0 c:0":                   "1:1 3:1",
		"char; short; int; struct a:2 b:1 c:0 d:0":   "1:1 2:2 4:4 8:4",
		"char; short; int; struct a:0 b:1 c:2":       "1:1 2:2 4:4 8:4",
		"char; short; int; struct a:0 b:2 c:1":       "1:1 2:2 4:4 12:4",
		"char; short; int; struct a:2 b:0":           "1:1 2:2 4:4 8:4",
		"char; short; int; struct a:2 b:1":           "1:1 2:2 4:4 8:4",
		"char; short; struct a:1 b:0":                "1:1 2:2 4:2",
		"char; short; struct a:0 b:1 c:0":            "1:1 2:2 6:2",
		"char; short; int; struct a:0 b:2 c:0 d:2":   "1:1 2:2 4:4 16:4",
		"char; int; arr 3 0; struct a:2 b:1 c:2":     "1:1 4:4 3:1 12:4",
		"char; int; arr 5 0; struct a:2 b:1 c:0":     "1:1 4:4 5:1 16:4",
		"char; int; arr 4 0; struct a:2 b:1 c:2":     "1:1 4:4 4:1 12:4",
		"char; ptr 0; struct a:0 b:1":                "1:1 4:4 8:4",
		"uchar; ushort; uint; struct a:0 b:2 c:1":    "1:1 2:2 4:4 12:4",
		"char; short; int; arr 3 1; struct a:3 b:2":  "1:1 2:2 4:4 6:2 12:4",
		"char; short; int; arr 3 1; struct a:0 b:3":  "1:1 2:2 4:4 6:2 8:2",
		"char; short; union a:1 b:0; struct a:0 b:2": "1:1 2:2 2:2 4:2",

		// Unions: the greatest size and the greatest alignment are of one field, or of two.
		"char; short; int; union a:0 b:1 c:2":         "1:1 2:2 4:4 4:4",
		"char; short; int; union a:2 b:1 c:0":         "1:1 2:2 4:4 4:4",
		"char; int; arr 5 0; union a:2 b:1":           "1:1 4:4 5:1 8:4",
		"char; int; arr 8 0; union a:1 b:2":           "1:1 4:4 8:1 8:4",
		"char; int; arr 9 0; union a:1 b:2":           "1:1 4:4 9:1 12:4",
		"char; short; arr 3 0; union a:1 b:2 c:0":     "1:1 2:2 3:1 4:2",
		"char; arr 3 0; union a:0 b:1":                "1:1 3:1 3:1",
		"short; int; arr 3 0; union a:2 b:1; arr 3 3": "2:2 4:4 6:2 8:4 24:4",
		"char; union a:0":                             "1:1 1:1",

		// Arrays of structs with a gap at the end, structs of structs and of arrays of structs.
		"char; int; struct a:1 b:0; arr 3 2; struct a:0 b:3 c:0":       "1:1 4:4 8:4 24:4 32:4",
		"char; short; struct a:1 b:0; struct a:0 b:2 c:0; arr 10 3":    "1:1 2:2 4:2 8:2 80:2",
		"char; short; struct a:0 b:0 c:0; struct a:2 b:1; arr 2 3":     "1:1 2:2 3:1 6:2 12:2",
		"int; union a:0; struct a:1 b:1; union a:2 b:1; struct a:3":    "4:4 4:4 8:4 8:4 8:4",
		"char; int; struct a:0 b:1 c:0; union a:2 b:1; struct a:0 b:3": "1:1 4:4 12:4 12:4 16:4",

		// Fields that stand above their struct.
		"struct a:1 b:2; char; int":                                           "8:4 1:1 4:4",
		"struct a:1 b:2; struct a:2 b:3 c:2; char; int":                       "16:4 12:4 1:1 4:4",
		"union a:3 b:4; char; short; arr 3 1; struct a:1 b:2":                 "4:2 1:1 2:2 3:1 4:2",
		"struct a:2; struct a:4; arr 2 1; arr 3 0; char":                      "2:1 1:1 2:1 6:1 1:1",
		"struct a:3 b:3; arr 4 0; struct a:1 b:4; union a:4 b:5; char; short": "4:2 16:2 18:2 2:2 1:1 2:2",

		// Structs that point to themselves and to each other.
		"struct a:1 b:2; ptr 0; char":                   "8:4 4:4 1:1",
		"ptr 1; struct a:0 b:2; ptr 3; struct a:2":      "4:4 8:4 4:4 4:4",
		"struct a:1; ptr 0; fun 1 1; ptr 2; struct a:3": "4:4 4:4 0:0 4:4 4:4",
	} {
		checkLaid(t, text, want)
	}
}

// At and above MaxObject, which is 60000: what is above is 60001, whatever stands around it.
func TestSizesThatAreTooGreat(t *testing.T) {
	for text, want := range map[string]string{
		"char; arr 59999 0; arr 60000 0":                        "1:1 59999:1 60000:1",
		"short; arr 30000 0; arr 30001 0; arr 60000 0":          "2:2 60000:2 60001:2 60001:2",
		"int; arr 15000 0; arr 15001 0; arr 60000 0":            "4:4 60000:4 60001:4 60001:4",
		"char; arr 3 0; arr 20000 1; arr 20001 1":               "1:1 3:1 60000:1 60001:1",
		"char; arr 7 0; arr 8571 1; arr 8572 1":                 "1:1 7:1 59997:1 60001:1",
		"char; arr 60000 0; arr 1 1; arr 2 1; arr 1 3; arr 9 3": "1:1 60000:1 60000:1 60001:1 60001:1 60001:1",

		"char; arr 59999 0; struct a:1 b:0; struct a:1 b:0 c:0":         "1:1 59999:1 60000:1 60001:1",
		"char; arr 60000 0; struct a:1; struct a:1 b:0; struct a:0 b:1": "1:1 60000:1 60000:1 60001:1 60001:1",
		"char; int; arr 59996 0; struct a:2 b:1; struct a:1 b:2":        "1:1 4:4 59996:1 60000:4 60000:4",
		"char; int; arr 59997 0; struct a:2 b:1; struct a:1 b:2":        "1:1 4:4 59997:1 60001:4 60001:4",
		"char; int; arr 59993 0; struct a:1 b:2; struct a:2 b:1":        "1:1 4:4 59993:1 60000:4 60000:4",
		"char; short; arr 59998 0; struct a:2 b:1; struct a:0 b:2 c:1":  "1:1 2:2 59998:1 60000:2 60001:2",
		"char; short; arr 59999 0; struct a:2 b:1; union a:2 b:1":       "1:1 2:2 59999:1 60001:2 60000:2",
		"char; int; arr 59999 0; union a:2 b:1; struct a:3 b:0":         "1:1 4:4 59999:1 60000:4 60001:4",

		"char; arr 60000 0; union a:1; union a:0 b:1":             "1:1 60000:1 60000:1 60000:1",
		"int; arr 15001 0; union a:1; union a:0 b:1; struct a:1":  "4:4 60001:4 60001:4 60001:4 60001:4",
		"char; int; arr 60000 0; union a:2 b:1; arr 1 3; arr 2 3": "1:1 4:4 60000:1 60000:4 60000:4 60001:4",

		// Far beyond any number that is not bounded.
		"char; arr 60000 0; arr 60000 1; arr 60000 2; arr 60000 3; arr 60000 4; arr 60000 5":        "1:1 60000:1 60001:1 60001:1 60001:1 60001:1 60001:1",
		"short; arr 60000 0; struct a:1 b:1; arr 60000 2; struct a:3 b:0 c:3; union a:4; arr 256 5": "2:2 60001:2 60001:2 60001:2 60001:2 60001:2 60001:2",
	} {
		checkLaid(t, text, want)
	}
}

func TestManyArraysOfArrays(t *testing.T) {
	for _, n := range []int{1, 2, 4096, 32768, 60000} {
		ts := []impl.Type{{K: impl.TypeChar}}
		want := []int{1}
		for i := range impl.MaxTypes - 1 {
			ts = append(ts, impl.Type{K: impl.TypeArr, N: n, Of: []int{i}})
			want = append(want, min(want[i]*n, impl.MaxObject+1))
		}
		for _, i := range []int{0, 1, 2, 3, 4, 5, 6, 14, 15, 16, 17, 63, 64, 65, 1000, 1998, 1999} {
			if got := laidOut(t, ts, i); got != (laid{want[i], 1}) {
				t.Errorf("array %d of %d: %v, not %d", i, n, got, want[i])
			}
		}
	}
}

// nested makes a chain of structs or unions, each of many fields of the one in front; turned round, of the one behind.
func nested(kind, count, fields int, turned bool) []impl.Type {
	names := []string{}
	for i := range fields {
		names = append(names, "f"+strconv.Itoa(i))
	}
	ts := []impl.Type{{K: impl.TypeShort}}
	for i := range count {
		if turned {
			i = count - i
		}
		ts = append(ts, impl.Type{K: kind, Of: slices.Repeat([]int{i}, fields), Names: names})
	}
	if turned {
		slices.Reverse(ts)
	}
	return ts
}

// Their sizes grow beyond any number, and going through all that lies within them would not end.
func TestManyStructsOfStructs(t *testing.T) {
	for _, fields := range []int{1, 2, impl.MaxFields} {
		for _, kind := range []int{impl.TypeStruct, impl.TypeUnion} {
			up, down := nested(kind, 400, fields, false), nested(kind, 400, fields, true)
			for _, i := range []int{0, 1, 2, 3, 13, 14, 15, 62, 64, 400} {
				size := 2
				for range i {
					if kind == impl.TypeStruct {
						size = min(size*fields, impl.MaxObject+1)
					}
				}
				if got := laidOut(t, up, i); got != (laid{size, 2}) {
					t.Errorf("record %d of %d fields: %v, not %d", i, fields, got, size)
				}
				if got := laidOut(t, down, 400-i); got != (laid{size, 2}) {
					t.Errorf("record %d from behind, of %d fields: %v, not %d", i, fields, got, size)
				}
			}
		}
	}
}
