package tests

import (
	"slices"
	"strings"
	"testing"

	"loop.example/s01681/impl"
)

// frameIs sees the frame of a main, which Frames gives and the function takes.
func frameIs(t *testing.T, want int, regs int, slots []int, steps string) {
	t.Helper()
	ir := alone(regs, slots, steps)
	if got := frames(t, ir); !slices.Equal(got, []int{want}) {
		t.Errorf("%.500s: %v, not %d", irText(ir), got, want)
	}
	emit(t, ir, 4096)
}

// acrossACall is steps that set registers, and use them behind a call.
func acrossACall(count int) string {
	return setting(0, count) + "call -1 main;" + using(upTo(0, count)...) + "ret -1"
}

func TestFramesOfSlots(t *testing.T) {
	t.Parallel()
	for _, c := range []struct {
		want  int
		slots []int
	}{
		{16, nil}, {16, []int{1}}, {16, []int{4}}, {16, []int{5}}, {16, []int{8}}, {16, []int{9}}, {16, []int{11}}, {16, []int{12}}, {32, []int{13}}, {32, []int{16}},
		{16, []int{1, 1}}, {16, []int{1, 1, 1}}, {32, []int{1, 1, 1, 1}}, {16, []int{5, 2}}, {16, []int{8, 4}}, {32, []int{8, 5}}, {32, []int{3, 9, 1}}, {32, []int{27}}, {32, []int{28}}, {48, []int{29}},
		{2032, []int{2028}}, {2048, []int{2029}}, {2048, []int{2044}}, {2064, []int{2045}}, {2064, []int{2048}}, {60016, []int{impl.MaxObject}}, {120016, []int{impl.MaxObject, impl.MaxObject - 3}},
		{816, slices.Repeat([]int{1}, impl.MaxSlots)}, {816, slices.Repeat([]int{4}, impl.MaxSlots)}, {1616, slices.Repeat([]int{5}, impl.MaxSlots)}, {12000016, slices.Repeat([]int{impl.MaxObject}, impl.MaxSlots)},
	} {
		frameIs(t, c.want, 0, c.slots, "ret -1")
		frameIs(t, c.want, 2, c.slots, "num 0 1; num 1 1; add 0 0 1; ret 0")
	}
}

// Registers that stand nowhere take no room, however many there are.
func TestFramesOfRegistersThatAreNotUsed(t *testing.T) {
	t.Parallel()
	for _, regs := range []int{0, 1, 17, 100, impl.MaxRegs} {
		frameIs(t, 16, regs, nil, "ret -1")
		frameIs(t, 32, regs, []int{13}, "label 0; jump 0; ret -1")
	}
	frameIs(t, 16, impl.MaxRegs, nil, "num 1999 1; ret 1999")
}

func TestFramesOfKeptRegisters(t *testing.T) {
	t.Parallel()
	sizes := []int{16, 16, 16, 16, 32, 32, 32, 32, 48, 48, 48, 48, 64}
	for count, want := range sizes {
		frameIs(t, want, count, nil, acrossACall(count))
		frameIs(t, want+16, count, []int{14}, acrossACall(count))
		// The others are not kept: t3 to t6.
		frameIs(t, want, count+4, nil, setting(0, count)+"call -1 main;"+setting(count, count+4)+using(upTo(0, count+4)...)+"ret -1")
		// Without a call four of them stand in t3 to t6.
		frameIs(t, want, count+4, nil, setting(0, count+4)+using(upTo(0, count+4)...)+"ret -1")
	}
	// As many as are counted are written.
	for count := range 13 {
		texts := strings.Split(funLines(t, alone(count, nil, acrossACall(count)), 0, 0), "; ")
		kept := 0
		for _, text := range texts {
			if strings.HasPrefix(text, "sw s") {
				kept++
			}
		}
		if kept != count {
			t.Errorf("%d are kept, not %d", kept, count)
		}
	}
}

func TestFramesOfSpills(t *testing.T) {
	t.Parallel()
	// With the twelve kept registers and ra 52 bytes.
	for spills, want := range []int{64, 64, 64, 64, 80, 80, 80, 80, 96} {
		frameIs(t, want, 12+spills, nil, acrossACall(12+spills))
		frameIs(t, want, 16+spills, nil, setting(0, 16+spills)+using(upTo(0, 16+spills)...)+"ret -1")
	}
	for _, c := range []struct{ spills, want int }{{495, 2032}, {496, 2048}, {499, 2048}, {500, 2064}, {1000, 4064}} {
		frameIs(t, c.want, 16+c.spills, nil, setting(0, 16+c.spills)+using(upTo(0, 16+c.spills)...)+"ret -1")
	}
	frameIs(t, (4*1984+52+15)/16*16, impl.MaxRegs, nil, setting(0, impl.MaxRegs)+using(upTo(0, impl.MaxRegs)...)+"ret -1")
	// Spills, slots, ra and kept registers together: 4 * 3 + 8 + 4 + 4 * 12 = 72, and 8 more.
	frameIs(t, 80, 15, []int{5}, acrossACall(15))
	frameIs(t, 80, 15, []int{5, 8}, acrossACall(15))
	frameIs(t, 96, 15, []int{5, 9}, acrossACall(15))
}

func TestFramesOfSeveralFunctions(t *testing.T) {
	t.Parallel()
	ir := impl.Ir{Funs: []impl.IrFun{
		{Name: "a", Slots: []int{100}, Code: stepsFrom("ret -1")},
		{Name: "main", Regs: 20, Code: stepsFrom(acrossACall(20))},
		{Name: "b", Params: 8, Regs: 8, Code: stepsFrom("ret 7")},
		{Name: "c", Slots: []int{3000, 1}, Code: stepsFrom("ret -1")},
		{Name: "d", Params: 3, Regs: 3, Code: stepsFrom("call -1 main; add 0 1 2; ret 0")},
	}}
	if got := frames(t, ir); !slices.Equal(got, []int{112, 96, 16, 3008, 16}) {
		t.Error(got)
	}
	emit(t, ir, 0)
	slices.Reverse(ir.Funs)
	if got := frames(t, ir); !slices.Equal(got, []int{16, 3008, 16, 96, 112}) {
		t.Error(got)
	}
	emit(t, ir, 0)
}

func TestFramesOfCodesThatAreNotValid(t *testing.T) {
	t.Parallel()
	_, wrong, misnamed := stepTexts()
	for _, text := range append(wrong, misnamed...) {
		steps := text
		if !strings.Contains(text, "label") {
			steps += "; label 5"
		}
		ir := mainOf(steps + "; ret -1")
		if got := impl.Frames(ir); len(got) != 0 {
			t.Errorf("%s: %v", text, got)
		}
		if lines := emit(t, ir, 4096); len(lines) != 0 {
			t.Errorf("%s: %d lines", text, len(lines))
		}
	}
	// One function that is wrong, and there are no frames of the others.
	for _, f := range []impl.IrFun{{Name: "f"}, {Name: "f", Code: stepsFrom("num 0 1")}, {Name: "f", Slots: []int{0}, Code: stepsFrom("ret -1")}, {Name: "f", Params: 1, Code: stepsFrom("ret -1")}, {Name: "main", Code: stepsFrom("ret -1")}} {
		for _, ir := range []impl.Ir{{Funs: []impl.IrFun{{Name: "main", Code: stepsFrom("ret -1")}, f}}, {Funs: []impl.IrFun{f, {Name: "main", Code: stepsFrom("ret -1")}}}} {
			if got := frames(t, ir); len(got) != 0 || len(emit(t, ir, 0)) != 0 {
				t.Errorf("%s: %v", irText(ir), got)
			}
		}
	}
	if got := frames(t, impl.Ir{}); len(got) != 0 || len(emit(t, impl.Ir{}, 0)) != 0 {
		t.Error(got)
	}
}
