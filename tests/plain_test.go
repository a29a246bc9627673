package tests

import (
	"fmt"
	"slices"
	"strings"
	"testing"

	"loop.example/s01681/impl"
)

// isPlain sees whether the three functions take a function: each gives something for each of its steps or registers then,
// and nothing otherwise.
func isPlain(t *testing.T, want bool, name string, f impl.IrFun) {
	t.Helper()
	g := alloc(t, f)
	steps, regs := 0, 0
	if want {
		steps, regs = len(f.Code), f.Regs
	}
	if len(g.live) != steps || len(g.spans) != regs || len(g.places) != regs {
		t.Errorf("%.300s: plain: %v, but %d, %d and %d", name, want, len(g.live), len(g.spans), len(g.places))
	}
}

// withStep is a function whose first step is this one.
func withStep(in impl.IrIns) impl.IrFun {
	f := fun(0, 4, "label 5; ret -1")
	f.Code = append([]impl.IrIns{in}, f.Code...)
	return f
}

func TestPlainSteps(t *testing.T) {
	right, wrong, misnamed := stepTexts()
	for i, text := range slices.Concat(right, misnamed, wrong) {
		around := text
		if !strings.Contains(text, "label") {
			around += "; label 5"
		}
		isPlain(t, i < len(right)+len(misnamed), text, fun(0, 4, around+"; ret -1"))
	}
	for op, most := range map[int]int{impl.IrAlu: 18, impl.IrNarrow: 4, impl.IrLoad: 5, impl.IrStore: 5} {
		for _, n := range []int{-1 << 63, -1, 0, 1, 2, most - 1, most, most + 1, 19, 1<<63 - 1} {
			isPlain(t, n >= 1 && n <= most, fmt.Sprintf("Op %d with %d", op, n), withStep(impl.IrIns{Op: op, N: n}))
		}
	}
	for _, op := range []int{0, 17, 18, -1, -14, 1 << 40, -1 << 63} {
		isPlain(t, false, fmt.Sprint("Op ", op), withStep(impl.IrIns{Op: op}))
		isPlain(t, false, fmt.Sprint("last Op ", op), impl.IrFun{Code: []impl.IrIns{{Op: op}}})
	}
	isPlain(t, false, "no test", withStep(impl.IrIns{Op: impl.IrIf, N: 5}))
	strayFields(func(name string, without, with []impl.IrIns) {
		f := fun(0, 4, "")
		f.Code = without
		isPlain(t, true, name, f)
		f.Code = with
		isPlain(t, false, name, f)
	})
	empty := fun(0, 4, "label 5; ret -1")
	empty.Slots, empty.Code[0].Args, empty.Code[1].Args = []int{}, []int{}, []int{}
	isPlain(t, true, "empty lists", empty)
}

// What does not matter for a function by itself: its name, the names in it, and how many Args fit a name.
func TestPlainNames(t *testing.T) {
	for _, name := range []string{"", "f", "g", "int", "while", "main", "putchar", "getchar", "exit", "$0", "$99999", "9", "a b", "\x00", "\xff", "é", strings.Repeat("n", 1000)} {
		f := fun(2, 4, "ret -1")
		f.Name = name
		isPlain(t, true, "Name "+name, f)
		isPlain(t, true, "IrAddr "+name, withStep(impl.IrIns{Op: impl.IrAddr, Sym: name}))
		isPlain(t, true, "IrAddr "+name, withStep(impl.IrIns{Op: impl.IrAddr, D: 3, Sym: name, N: impl.MaxObject}))
		isPlain(t, false, "IrAddr "+name, withStep(impl.IrIns{Op: impl.IrAddr, Sym: name, N: impl.MaxObject + 1}))
		for args := range impl.MaxParams + 3 {
			in := impl.IrIns{Op: impl.IrCall, D: -1, Sym: name, Args: make([]int, args)}
			isPlain(t, args <= impl.MaxParams, fmt.Sprint("IrCall ", name, args), withStep(in))
			in.Op, in.Sym = impl.IrCallR, ""
			isPlain(t, args <= impl.MaxParams, fmt.Sprint("IrCallR ", args), withStep(in))
		}
		// A name where none stands.
		for _, text := range []string{"num 0 1", "move 0 1", "load w 0 1", "slot 0 0", "callr -1 0", "label 3", "jump 5", "ret -1", "copy 0 1 4", "zero 0 4"} {
			in := aStep(text)
			in.Sym = name
			isPlain(t, name == "", text+" "+name, withStep(in))
		}
		in := aStep("if eq 0 1 5")
		in.Sym = name
		isPlain(t, false, "IrIf "+name, withStep(in))
	}
	isPlain(t, false, "very many Args", withStep(impl.IrIns{Op: impl.IrCall, D: -1, Sym: "f", Args: make([]int, 3000)}))
}

func TestPlainFunctions(t *testing.T) {
	for _, c := range []struct {
		want         bool
		params, regs int
	}{{true, 0, 0}, {true, 0, 1}, {true, 1, 1}, {true, 8, 8}, {true, 8, 2000}, {true, 0, 2000}, {false, 9, 9}, {false, 9, 2000}, {false, -1, 0}, {false, -1, -1}, {false, 0, -1}, {false, 1, 0}, {false, 8, 7}, {false, 0, 2001}, {false, 8, 2001}, {false, 1 << 62, 1 << 62}, {false, -1 << 63, -1 << 63}, {false, 0, 1<<63 - 1}} {
		isPlain(t, c.want, fmt.Sprint(c.params, " Params and ", c.regs), impl.IrFun{Params: c.params, Regs: c.regs, Code: stepsFrom("ret -1")})
	}
	for _, regs := range []int{0, 1, 2, 63, 64, 65, 128, 2000} {
		for _, reg := range []int{regs - 1, regs, regs + 1} {
			if reg >= 0 {
				isPlain(t, reg < regs, fmt.Sprintf("register %d of %d", reg, regs), fun(0, regs, fmt.Sprintf("num %d 1; ret %d", reg, reg)))
				isPlain(t, reg < regs, fmt.Sprintf("register %d of %d", reg, regs), fun(0, regs, fmt.Sprintf("ret %d", reg)))
			}
		}
	}
	for _, c := range []struct {
		want        bool
		count, size int
	}{{true, 0, 1}, {true, 1, 1}, {true, 200, 1}, {true, 200, 60000}, {true, 1, 60000}, {false, 201, 1}, {false, 1, 0}, {false, 200, 0}, {false, 1, -1}, {false, 1, 60001}, {false, 1, 1 << 62}, {false, 1, -1 << 63}} {
		slots := slices.Repeat([]int{c.size}, c.count)
		isPlain(t, c.want, fmt.Sprint(c.count, " slots of ", c.size), impl.IrFun{Slots: slots, Code: stepsFrom("ret -1")})
		if c.count > 0 {
			isPlain(t, c.want, fmt.Sprint("the last slot of ", c.count), impl.IrFun{Regs: 1, Slots: slots, Code: stepsFrom(fmt.Sprint("slot 0 ", c.count-1, "; ret -1"))})
			isPlain(t, false, fmt.Sprint("one slot more than ", c.count), impl.IrFun{Regs: 1, Slots: slots, Code: stepsFrom(fmt.Sprint("slot 0 ", c.count, "; ret -1"))})
		}
	}
	isPlain(t, false, "the last slot", impl.IrFun{Slots: []int{1, 2, 3, 0}, Code: stepsFrom("ret -1")})
	for _, steps := range []int{0, 1, 2, 63, 64, 65, 7999, 8000, 8001} {
		isPlain(t, steps > 0 && steps <= impl.MaxIr, fmt.Sprint(steps, " steps"), impl.IrFun{Code: stepsFrom(strings.Repeat("ret -1;", steps))})
	}
	for _, last := range []string{"num 0 0", "move 0 0", "label 1", "label 1; jump 1", "label 1; if eq 0 0 1", "call -1 exit 0", "ret -1; label 2", "zero 0 1"} {
		isPlain(t, false, "at the end "+last, fun(0, 4, last))
	}
	isPlain(t, false, "nothing", impl.IrFun{})
}
