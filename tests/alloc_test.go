package tests

import (
	"fmt"
	"slices"
	"strings"
	"sync"
	"testing"

	"loop.example/s01681/impl"
)

// given is what the three functions of chapter 11 say of a function.
type given struct {
	live   [][]int
	spans  []impl.Span
	places []impl.Place
}

func givenOf(f impl.IrFun) given {
	return given{impl.LiveBefore(f), impl.Spans(f), impl.Allot(f)}
}

// alloc asks the three functions twice, and sees that the function is as it was behind each, that the answers are the
// same in new memory, and that the second reading says the same, and holds promise 12.
func alloc(t *testing.T, f impl.IrFun) given {
	t.Helper()
	name := fmt.Sprintf("%.1500s", funText(f))
	ask := func() given {
		g := given{}
		unwrittenIr(t, impl.Ir{Funs: []impl.IrFun{f}}, func(ir impl.Ir) int { g.live = impl.LiveBefore(ir.Funs[0]); return 0 })
		unwrittenIr(t, impl.Ir{Funs: []impl.IrFun{f}}, func(ir impl.Ir) int { g.spans = impl.Spans(ir.Funs[0]); return 0 })
		unwrittenIr(t, impl.Ir{Funs: []impl.IrFun{f}}, func(ir impl.Ir) int { g.places = impl.Allot(ir.Funs[0]); return 0 })
		return g
	}
	got, again := ask(), ask()
	if other := otherwise(got, again); other != "" {
		t.Errorf("%s: once and once: %s", name, other)
	}
	ownLists(t, name, got, again)
	if wrong := plainFunBy(f); wrong != "" {
		if len(got.live) != 0 || len(got.spans) != 0 || len(got.places) != 0 {
			t.Errorf("%s\nis not plain (%s), but has %d, %d and %d", name, wrong, len(got.live), len(got.spans), len(got.places))
		}
		return got
	}
	spans := spansBy(f)
	want := given{liveBy(f), spans, allotBy(spans)}
	if other := otherwise(got, want); other != "" {
		t.Errorf("%s\nand by the second reading: %s", name, other)
	}
	apart(t, name, got)
	return got
}

// otherwise tells the first thing in which two answers are not the same, nothing when there is none.
func otherwise(a, b given) string {
	if len(a.live) != len(b.live) || len(a.spans) != len(b.spans) || len(a.places) != len(b.places) {
		return fmt.Sprintf("%d, %d, %d and %d, %d, %d", len(a.live), len(a.spans), len(a.places), len(b.live), len(b.spans), len(b.places))
	}
	for i := range a.live {
		if !slices.Equal(a.live[i], b.live[i]) {
			return fmt.Sprintf("before step %d %v and %v", i, a.live[i], b.live[i])
		}
	}
	for reg := range a.spans {
		if a.spans[reg] != b.spans[reg] {
			return fmt.Sprintf("register %d: %v and %v", reg, a.spans[reg], b.spans[reg])
		}
	}
	for reg := range a.places {
		if a.places[reg] != b.places[reg] {
			return fmt.Sprintf("register %d: %v in %v and %v", reg, a.spans[reg], a.places[reg], b.places[reg])
		}
	}
	return ""
}

// ownLists sees that no two lists of two answers share memory.
func ownLists(t *testing.T, name string, a, b given) {
	t.Helper()
	all, size := append(slices.Clone(a.live), b.live...), 0
	for _, list := range all {
		size += cap(list)
	}
	seen := map[*int]int{}
	for i, list := range all {
		list = list[:cap(list)]
		for k := range list {
			// Of very many numbers the ends of their lists must do.
			if size > 100000 && k != 0 && k != len(list)-1 {
				continue
			}
			if first, ok := seen[&list[k]]; ok && first != i {
				t.Errorf("%s: two lists of live registers share memory", name)
				return
			}
			seen[&list[k]] = i
		}
	}
	if touch(a.live, b.live) || touch(a.spans, b.spans) || touch(a.places, b.places) {
		t.Errorf("%s: two answers share memory", name)
	}
}

// apart holds promise 12: no two registers that stand at one step share a place, and none that crosses a call has x28 to
// x31. Beside it: a register that stands has a place of those there are, one that does not has none.
func apart(t *testing.T, name string, g given) {
	t.Helper()
	machine := []int{8, 9, 18, 19, 20, 21, 22, 23, 24, 25, 26, 27, 28, 29, 30, 31}
	spills := []int{}
	for reg, p := range g.places {
		span := g.spans[reg]
		isGiven := slices.Contains(machine, p.Reg) && p.Spill == -1
		isSpilt := p.Reg == 0 && p.Spill >= 0
		if span.To >= 0 && !isGiven && !isSpilt || span.To < 0 && p != (impl.Place{Spill: -1}) {
			t.Errorf("%s: register %d, %v, is in %v", name, reg, span, p)
		}
		if span.Cross && p.Reg >= 28 {
			t.Errorf("%s: register %d crosses a call in x%d", name, reg, p.Reg)
		}
		if p.Spill >= 0 {
			spills = append(spills, p.Spill)
		}
		for other, q := range g.places[:reg] {
			meet := max(span.From, g.spans[other].From) <= min(span.To, g.spans[other].To)
			if meet && p == q {
				t.Errorf("%s: registers %d and %d are both in %v", name, other, reg, p)
			}
		}
	}
	slices.Sort(spills)
	for i, spill := range spills {
		if i != spill {
			t.Errorf("%s: spills %v", name, spills)
			break
		}
	}
}

// allocated are the functions of sources that allocOnce has seen: many sources of the tests have functions in common.
var allocated sync.Map

// allocOnce does what alloc does, for each function of a code that has not come up yet.
func allocOnce(t *testing.T, ir impl.Ir) {
	t.Helper()
	for _, f := range ir.Funs {
		if _, done := allocated.LoadOrStore(funText(f), true); !done {
			alloc(t, f)
		}
	}
}

// fun makes a function of steps, with slots of 5 and 8 bytes.
func fun(params, regs int, steps string) impl.IrFun {
	return impl.IrFun{Name: "f", Params: params, Regs: regs, Slots: []int{5, 8}, Code: stepsFrom(steps)}
}

// livesAre sees what is live before each step: for each step its registers, a , between steps.
func livesAre(t *testing.T, params, regs int, steps, want string) {
	t.Helper()
	texts := []string{}
	for _, list := range alloc(t, fun(params, regs, steps)).live {
		texts = append(texts, strings.Trim(fmt.Sprint(list), "[]"))
	}
	if got := strings.Join(texts, ","); got != want {
		t.Errorf("%s:\n%s\nnot\n%s", steps, got, want)
	}
}

// spanText writes `0-3`, `0-3!` for a span with Cross, `none` for that of a register that stands nowhere.
func spanText(span impl.Span) string {
	switch {
	case span == impl.Span{From: 0, To: -1}:
		return "none"
	case span.Cross:
		return fmt.Sprint(span.From, "-", span.To, "!")
	}
	return fmt.Sprint(span.From, "-", span.To)
}

// spansAre sees the spans of all registers.
func spansAre(t *testing.T, params, regs int, steps, want string) {
	t.Helper()
	texts := []string{}
	for _, span := range alloc(t, fun(params, regs, steps)).spans {
		texts = append(texts, spanText(span))
	}
	if got := strings.Join(texts, " "); got != want {
		t.Errorf("%s:\n%s\nnot\n%s", steps, got, want)
	}
}

// placesAre sees the places of all registers: the name of a machine register, the number of a spill, or none.
func placesAre(t *testing.T, params, regs int, steps, want string) {
	t.Helper()
	texts := []string{}
	for _, p := range alloc(t, fun(params, regs, steps)).places {
		switch {
		case p.Reg != 0 && p.Spill == -1:
			texts = append(texts, impl.RegName(p.Reg))
		case p.Reg == 0 && p.Spill >= 0:
			texts = append(texts, fmt.Sprint(p.Spill))
		case p == impl.Place{Spill: -1}:
			texts = append(texts, "none")
		default:
			texts = append(texts, fmt.Sprint(p))
		}
	}
	if got := strings.Join(texts, " "); got != want {
		t.Errorf("%.1000s:\n%s\nnot\n%s", steps, got, want)
	}
}
