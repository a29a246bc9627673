package tests

import (
	"math/rand"
	"slices"
	"testing"

	"loop.example/s01681/impl"
)

// typeMaker makes up lists of types. Sizes are small, or such that several of them are too great.
type typeMaker struct {
	r     *rand.Rand
	great bool
}

func (m typeMaker) pick(numbers ...int) int { return numbers[m.r.Intn(len(numbers))] }

// types makes a valid list. Records get their fields when all types are there, each only if the list stays valid.
func (m typeMaker) types(count int) []impl.Type {
	ts := []impl.Type{{K: impl.TypeChar + m.r.Intn(6)}}
	open := []int{}
	for len(ts) < count {
		one := m.one(ts)
		if one.K == impl.TypeStruct || one.K == impl.TypeUnion {
			open = append(open, len(ts))
			if m.r.Intn(5) > 0 {
				one.Of, one.Names = []int{0}, []string{"first"}
			}
		}
		if longer := append(slices.Clip(ts), one); typesOkBy(longer) {
			ts = longer
		}
	}
	for _, i := range open {
		if len(ts[i].Names) > 0 {
			m.fill(ts, i)
		}
	}
	return ts
}

func (m typeMaker) one(ts []impl.Type) impl.Type {
	below := m.r.Intn(len(ts))
	switch m.r.Intn(10) {
	case 0, 1:
		return impl.Type{K: impl.TypeVoid + m.r.Intn(7)}
	case 2, 3:
		return impl.Type{K: impl.TypePtr, Of: []int{below}}
	case 4, 5:
		n := 1 + m.r.Intn(5)
		if m.great {
			n = m.pick(1, 2, 3, 200, 7000, 14999, 15000, 20000, 29999, 30000, 59996, 59997, 59998, 59999, 60000)
		}
		return impl.Type{K: impl.TypeArr, N: n, Of: []int{below}}
	case 6:
		of := []int{below}
		for range m.r.Intn(4) {
			of = append(of, m.r.Intn(len(ts)))
		}
		return impl.Type{K: impl.TypeFun, Of: of}
	case 7:
		return impl.Type{K: impl.TypeUnion}
	}
	return impl.Type{K: impl.TypeStruct}
}

// fill gives a struct or union some fields in place of the one that it has.
func (m typeMaker) fill(ts []impl.Type, i int) {
	for range 1 + m.r.Intn(6) {
		old := ts[i]
		name := string(rune('a'+len(old.Of))) + string("xyz_Q9"[m.r.Intn(6)])
		ts[i].Of, ts[i].Names = append(slices.Clone(old.Of), m.r.Intn(len(ts))), append(slices.Clone(old.Names), name)
		if !typesOkBy(ts) {
			ts[i] = old
		}
	}
	if old := ts[i]; len(old.Of) > 1 {
		ts[i].Of, ts[i].Names = old.Of[1:], old.Names[1:]
		if !typesOkBy(ts) {
			ts[i] = old
		}
	}
}

// checkPromise asks for the fields of each struct that is not too great: aligned, one behind the other, and within its
// size; and for those of a union: at 0, and within its size.
func checkPromise(t *testing.T, ts []impl.Type) {
	t.Helper()
	for i, one := range ts {
		size, align := impl.SizeOf(ts, i), impl.AlignOf(ts, i)
		if one.K != impl.TypeStruct && one.K != impl.TypeUnion || len(one.Of) == 0 || size > impl.MaxObject {
			continue
		}
		if size <= 0 || align <= 0 || size%align != 0 {
			t.Errorf("%s: type %d has the size %d and the alignment %d", typesText(ts), i, size, align)
		}
		behind := 0
		for k, name := range one.Names {
			at, of, ok := impl.FieldOf(ts, i, name)
			partSize, partAlign := impl.SizeOf(ts, of), impl.AlignOf(ts, of)
			if !ok || of != one.Of[k] || partAlign <= 0 || at%partAlign != 0 || align%partAlign != 0 || at+partSize > size {
				t.Errorf("%s: field %s of type %d lies at %d of %d", typesText(ts), name, i, at, size)
			}
			if one.K == impl.TypeUnion && at != 0 || one.K == impl.TypeStruct && (at < behind || at >= behind+partAlign) {
				t.Errorf("%s: field %s of type %d lies at %d behind %d", typesText(ts), name, i, at, behind)
			}
			behind = max(behind, at+partSize)
		}
		if size < behind || size >= behind+align {
			t.Errorf("%s: type %d has the size %d, its fields end at %d", typesText(ts), i, size, behind)
		}
	}
}

// checkAgainst holds all functions against the second ones, for all types of a list and all pairs of them.
func checkAgainst(t *testing.T, ts []impl.Type) {
	t.Helper()
	all := laidBy(ts)
	for i, one := range ts {
		if got := laidOut(t, ts, i); got != all[i].laid() {
			t.Errorf("%s: type %d is %v, not %v", typesText(ts), i, got, all[i].laid())
		}
		for k, name := range one.Names {
			if got, want := fieldIn(t, ts, i, name), (fieldAt{capped(all[i].offsets[k]), one.Of[k], true}); got != want {
				t.Errorf("%s: field %s of type %d is %v, not %v", typesText(ts), name, i, got, want)
			}
		}
		if got := fieldIn(t, ts, i, "none"); got != (fieldAt{}) {
			t.Errorf("%s: type %d has a field that it has not: %v", typesText(ts), i, got)
		}
		for j := range ts {
			if got := sameTypes(t, ts, i, j); got != sameBy(ts, i, j) {
				t.Errorf("%s: that %d and %d are the same is %v", typesText(ts), i, j, got)
			}
		}
	}
}

func TestManyMadeUpTypes(t *testing.T) {
	records, tooGreat, above := 0, 0, 0
	for seed := range int64(500) {
		m := typeMaker{rand.New(rand.NewSource(seed)), seed%2 == 1}
		ts := m.types(3 + m.r.Intn(14))
		if !typesOk(t, ts) {
			t.Errorf("%s: not valid", typesText(ts))
		}
		checkPromise(t, ts)
		checkAgainst(t, ts)
		for i, one := range ts {
			if len(one.Names) > 0 {
				records++
				if slices.Max(one.Of) > i {
					above++
				}
			}
			if impl.SizeOf(ts, i) > impl.MaxObject {
				tooGreat++
			}
		}
	}
	if records < 600 || tooGreat < 200 || above < 200 {
		t.Errorf("the made-up lists have %d records, %d with fields above, and %d types that are too great", records, above, tooGreat)
	}
}

func TestGreatMadeUpLists(t *testing.T) {
	for seed := range int64(2) {
		m := typeMaker{rand.New(rand.NewSource(seed)), seed%2 == 1}
		ts := m.types(60)
		if !typesOk(t, ts) {
			t.Errorf("%s: not valid", typesText(ts))
		}
		checkPromise(t, ts)
		checkAgainst(t, ts)
	}
}

// spoil changes one thing of a list.
func (m typeMaker) spoil(ts []impl.Type) {
	one := &ts[m.r.Intn(len(ts))]
	at := m.pick(-1, len(ts), m.r.Intn(len(ts)), m.r.Intn(len(ts)), m.r.Intn(len(ts)), m.r.Intn(len(ts)))
	switch m.r.Intn(9) {
	case 0:
		one.K = m.r.Intn(14)
	case 1:
		one.N = m.pick(0, 1, 2, 60000, 60001, -1)
	case 2:
		one.Of = append(one.Of, at)
	case 3:
		one.Names = append(one.Names, "more")
	case 4:
		one.Of, one.Names = append(one.Of, at), append(one.Names, "both")
	case 5, 6, 7:
		if len(one.Of) > 0 {
			one.Of[m.r.Intn(len(one.Of))] = at
		}
	case 8:
		if len(one.Names) > 0 {
			words := []string{"", "int", "9", "ok", one.Names[0], "a b"}
			one.Names[m.r.Intn(len(one.Names))] = words[m.r.Intn(len(words))]
		}
	}
}

func TestManySpoiltLists(t *testing.T) {
	counts := [2]int{}
	for seed := range int64(150) {
		m := typeMaker{rand.New(rand.NewSource(seed)), false}
		ts := m.types(3 + m.r.Intn(10))
		for range 40 {
			other := roomyTypes(ts)
			for range 1 + m.r.Intn(2) {
				m.spoil(other)
			}
			want := typesOkBy(other)
			checkFit(t, other, want)
			if want {
				counts[1]++
				checkPromise(t, other)
				continue
			}
			counts[0]++
		}
	}
	if counts[0] < 1000 || counts[1] < 1000 {
		t.Errorf("%d lists are not valid, and %d are", counts[0], counts[1])
	}
}
