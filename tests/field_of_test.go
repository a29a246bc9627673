package tests

import (
	"math"
	"slices"
	"strconv"
	"strings"
	"testing"

	"loop.example/s01681/impl"
)

// checkFields asks for each field of a type of a list: its name, its offset and the position of its type, as name:at:of
// with blanks between; and for no other.
func checkFields(t *testing.T, text string, i int, want string) {
	t.Helper()
	ts := typeList(text)
	if !typesOk(t, ts) {
		t.Errorf("%s: not valid", text)
	}
	names := []string{}
	for row := range strings.FieldsSeq(want) {
		parts := strings.Split(row, ":")
		names = append(names, parts[0])
		if got := fieldIn(t, ts, i, parts[0]); got != (fieldAt{number(parts[1]), number(parts[2]), true}) {
			t.Errorf("%s: type %d: %v, not %s", text, i, got, row)
		}
	}
	if !slices.Equal(names, ts[i].Names) {
		t.Errorf("%s: type %d has other fields than %s", text, i, want)
	}
	for _, other := range noNames(names) {
		if got := fieldIn(t, ts, i, other); got != (fieldAt{}) {
			t.Errorf("%s: type %d: there is a field %q: %v", text, i, other, got)
		}
	}
}

// noNames are names near those that a type has.
func noNames(names []string) []string {
	others := []string{"", "zz", "int", "0", " ", "_", strings.Repeat("z", 100000)}
	for _, name := range names {
		others = append(others, name+name, name+"_", "_"+name, strings.ToUpper(name), name+" ", " "+name, name+"\x00", name[1:])
	}
	return slices.DeleteFunc(others, func(other string) bool { return slices.Contains(names, other) })
}

func TestFieldsByHand(t *testing.T) {
	for _, c := range []struct {
		text string
		i    int
		want string
	}{
		{"char; short; int; struct c:0 n:2 h:1 d:0 m:2", 3, "c:0:0 n:4:2 h:8:1 d:10:0 m:12:2"},
		{"char; short; int; union c:0 n:2 h:1", 3, "c:0:0 n:0:2 h:0:1"},
		{"int; struct only:0", 1, "only:0:0"},
		{"int; union only:0", 1, "only:0:0"},
		{"char; struct a:0 b:0 c:0 d:0", 1, "a:0:0 b:1:0 c:2:0 d:3:0"},
		{"char; short; int; struct a:0 b:1 c:0 d:2 e:0 f:0 g:1 h:2", 3, "a:0:0 b:2:1 c:4:0 d:8:2 e:12:0 f:13:0 g:14:1 h:16:2"},
		{"char; int; arr 5 0; struct a:2 b:1 c:2 d:0", 3, "a:0:2 b:8:1 c:12:2 d:17:0"},
		{"char; int; struct a:1 b:0; struct x:0 y:2 z:0; union u:3 v:2 w:0", 3, "x:0:0 y:4:2 z:12:0"},
		{"char; int; struct a:1 b:0; struct x:0 y:2 z:0; union u:3 v:2 w:0", 4, "u:0:3 v:0:2 w:0:0"},
		{"char; short; struct a:0 b:0 c:0; struct x:0 y:2 z:1 w:2", 3, "x:0:0 y:1:2 z:4:1 w:6:2"},

		// Types that are the same at several positions: the position that the field has is told.
		{"int; int; int; struct a:2 b:0 c:1", 3, "a:0:2 b:4:0 c:8:1"},
		{"int; ptr 0; ptr 0; union a:2 b:1", 3, "a:0:2 b:0:1"},

		// Fields that stand above, and structs that point to themselves.
		{"struct a:1 b:2 c:3; char; int; ptr 0", 0, "a:0:1 b:4:2 c:8:3"},
		{"struct a:2 b:3; ptr 0; struct x:3 y:1; char", 0, "a:0:2 b:8:3"},
		{"struct a:1 b:2; union c:2 d:3; char; short", 0, "a:0:1 b:2:2"},
		{"ptr 1; struct a:2 next:0; char", 1, "a:0:2 next:4:0"},

		// Types without fields.
		{oneOfEach, 0, ""}, {oneOfEach, 1, ""}, {oneOfEach, 4, ""}, {oneOfEach, 6, ""}, {oneOfEach, 8, ""}, {oneOfEach, 9, ""}, {oneOfEach, 12, ""},
		{oneOfEach, 10, "a:0:9 b:8:3"}, {oneOfEach, 11, "a:0:10 b:0:3"},
		{"struct; union; int; struct a:2; ptr 3; arr 2 3", 0, ""}, {"struct; union; int; struct a:2; ptr 3; arr 2 3", 1, ""}, {"struct; union; int; struct a:2; ptr 3; arr 2 3", 4, ""}, {"struct; union; int; struct a:2; ptr 3; arr 2 3", 5, ""},
	} {
		checkFields(t, c.text, c.i, c.want)
	}
}

func TestFieldsThatAreTooFar(t *testing.T) {
	for _, c := range []struct {
		text string
		i    int
		want string
	}{
		// At MaxObject itself a field may lie, which makes its struct too great.
		{"char; arr 60000 0; struct a:1 b:0 c:0", 2, "a:0:1 b:60000:0 c:60001:0"},
		{"char; arr 59999 0; struct a:1 b:0 c:0 d:0", 2, "a:0:1 b:59999:0 c:60000:0 d:60001:0"},
		{"char; int; arr 59997 0; struct a:2 b:1 c:0", 3, "a:0:2 b:60000:1 c:60001:0"},
		{"char; short; arr 59999 0; struct a:2 b:1 c:1 d:0", 3, "a:0:2 b:60000:1 c:60001:1 d:60001:0"},
		// A gap makes it too far.
		{"char; int; arr 60000 0; struct a:2 b:0 c:1 d:0", 3, "a:0:2 b:60000:0 c:60001:1 d:60001:0"},
		{"char; int; arr 59998 0; struct a:2 b:0 c:0 d:1 e:0", 3, "a:0:2 b:59998:0 c:59999:0 d:60000:1 e:60001:0"},
		// Behind one that is too great, of whatever alignment, and between others.
		{"char; short; int; arr 15001 2; struct a:3 b:0 c:1 d:2 e:3 f:0", 4, "a:0:3 b:60001:0 c:60001:1 d:60001:2 e:60001:3 f:60001:0"},
		{"char; int; arr 60000 1; struct a:0 b:2 c:0 d:1", 3, "a:0:0 b:4:2 c:60001:0 d:60001:1"},
		{"char; arr 60000 0; arr 60000 1; struct a:1 b:2 c:0", 3, "a:0:1 b:60000:2 c:60001:0"},
		{"char; arr 60000 0; arr 60000 1; arr 60000 2; union a:1 b:3 c:0", 4, "a:0:1 b:0:3 c:0:0"},
		{"char; arr 40000 0; struct a:1 b:1; struct x:0 y:2 z:0; union u:3 v:0", 2, "a:0:1 b:40000:1"},
		{"char; arr 40000 0; struct a:1 b:1; struct x:0 y:2 z:0; union u:3 v:0", 3, "x:0:0 y:1:2 z:60001:0"},
		{"char; arr 40000 0; struct a:1 b:1; struct x:0 y:2 z:0; union u:3 v:0", 4, "u:0:3 v:0:0"},
	} {
		checkFields(t, c.text, c.i, c.want)
	}
}

func TestFieldsOfNoTypes(t *testing.T) {
	ts := typeList("int; struct a:0; union a:1 b:0")
	for _, i := range noTypes(len(ts)) {
		for _, name := range []string{"a", "b", ""} {
			if got := fieldIn(t, ts, i, name); got != (fieldAt{}) {
				t.Errorf("field %q of type %d: %v", name, i, got)
			}
		}
	}
	for _, i := range []int{0, -1, 1, math.MinInt, math.MaxInt} {
		if fieldIn(t, nil, i, "a") != (fieldAt{}) || laidOut(t, nil, i) != (laid{}) || sameTypes(t, nil, i, i) {
			t.Errorf("type %d of no types", i)
		}
	}
}

func TestEachOfManyFields(t *testing.T) {
	ts := typeList("char; short; int; struct; union")
	for i := range impl.MaxFields {
		for k := 3; k < 5; k++ {
			ts[k].Of = append(ts[k].Of, i*i%3)
			ts[k].Names = append(ts[k].Names, "f"+strconv.Itoa(i))
		}
	}
	behind := 0
	for i, of := range ts[3].Of {
		size := 1 << of
		for behind%size != 0 {
			behind++
		}
		name := "f" + strconv.Itoa(i)
		if got := fieldIn(t, ts, 3, name); got != (fieldAt{behind, of, true}) {
			t.Errorf("struct, %s: %v, not %d", name, got, behind)
		}
		if got := fieldIn(t, ts, 4, name); got != (fieldAt{0, of, true}) {
			t.Errorf("union, %s: %v", name, got)
		}
		behind += size
	}
}
