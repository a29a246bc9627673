package tests

import (
	"fmt"
	"strings"
	"testing"

	"loop.example/s01681/impl"
)

// begins sees how the last function of a code begins, up to the first line that its steps have.
func begins(t *testing.T, ir impl.Ir, stack int, want string) {
	t.Helper()
	if text := funLines(t, ir, len(ir.Funs)-1, stack); !strings.HasPrefix(text, want) {
		t.Errorf("%.500s begins\n%.1500s\nnot\n%s", irText(ir), text, want)
	}
}

func TestEmitSizesOfFrames(t *testing.T) {
	t.Parallel()
	for _, c := range []struct {
		slot  int
		frame int
		take  string
		give  string
	}{
		{1, 16, "addi sp, sp, -16; sw ra, 4(sp)", "lw ra, 4(sp); addi sp, sp, 16"},
		{13, 32, "addi sp, sp, -32; sw ra, 16(sp)", "lw ra, 16(sp); addi sp, sp, 32"},
		{2012, 2016, "addi sp, sp, -2016; sw ra, 2012(sp)", "lw ra, 2012(sp); addi sp, sp, 2016"},
		{2028, 2032, "addi sp, sp, -2032; sw ra, 2028(sp)", "lw ra, 2028(sp); addi sp, sp, 2032"},
		{2029, 2048, "li t0, 2048; sub sp, sp, t0; sw ra, 2032(sp)", "lw ra, 2032(sp); li t0, 2048; add sp, sp, t0"},
		{2044, 2048, "li t0, 2048; sub sp, sp, t0; sw ra, 2044(sp)", "lw ra, 2044(sp); li t0, 2048; add sp, sp, t0"},
		{2045, 2064, "li t0, 2064; sub sp, sp, t0; li t2, 2048; add t2, t2, sp; sw ra, 0(t2)", "li t2, 2048; add t2, t2, sp; lw ra, 0(t2); li t0, 2064; add sp, sp, t0"},
		{2048, 2064, "li t0, 2064; sub sp, sp, t0; li t2, 2048; add t2, t2, sp; sw ra, 0(t2)", "li t2, 2048; add t2, t2, sp; lw ra, 0(t2); li t0, 2064; add sp, sp, t0"},
		{60000, 60016, "li t0, 60016; sub sp, sp, t0; li t2, 60000; add t2, t2, sp; sw ra, 0(t2)", "li t2, 60000; add t2, t2, sp; lw ra, 0(t2); li t0, 60016; add sp, sp, t0"},
	} {
		for _, stack := range []int{0, 16, 2048, 4096, 65520, 65536} {
			want := fmt.Sprintf("C.main:; li t0, %d; bgeu sp, t0, .K0_s; j .over; .K0_s:; %s; li a0, 0; %s; ret", 2097152-stack+c.frame, c.take, c.give)
			if text := funLines(t, alone(0, []int{c.slot}, "ret -1"), 0, stack); text != want {
				t.Errorf("a slot of %d and a stack of %d:\n%s\nnot\n%s", c.slot, stack, text, want)
			}
		}
	}
}

// Each number of kept registers, each at its place, ascending by number, whatever the order was in which they were given.
func TestEmitKeptRegisters(t *testing.T) {
	t.Parallel()
	given := strings.Fields(keptRegs)
	ascending := strings.Fields("s0 s1 s2 s3 s4 s5 s6 s7 s8 s9 s10 s11")
	for count := range 13 {
		for _, slots := range [][]int{nil, {5}} {
			at := 8 * len(slots)
			stores, loads := fmt.Sprintf("sw ra, %d(sp)", at), fmt.Sprintf("lw ra, %d(sp)", at)
			for _, reg := range ascending {
				for _, has := range given[:count] {
					if reg == has {
						at += 4
						stores += fmt.Sprintf("; sw %s, %d(sp)", reg, at)
						loads += fmt.Sprintf("; lw %s, %d(sp)", reg, at)
					}
				}
			}
			frame := (at + 4 + 15) / 16 * 16
			text := funLines(t, alone(count, slots, acrossACall(count)), 0, 64)
			if front := fmt.Sprintf("addi sp, sp, -%d; %s; ", frame, stores); !strings.Contains(text, front) {
				t.Errorf("%d: %.900s\nhas no %s", count, text, front)
			}
			if end := fmt.Sprintf("; li a0, 0; %s; addi sp, sp, %d; ret", loads, frame); !strings.HasSuffix(text, end) {
				t.Errorf("%d: %s\ndoes not end %s", count, text, end)
			}
		}
	}
}

func TestEmitParams(t *testing.T) {
	t.Parallel()
	front := "C.f:; li t0, 2097168; bgeu sp, t0, .K1_s; j .over; .K1_s:; addi sp, sp, -16; sw ra, 0(sp); "
	for _, c := range []struct {
		params int
		steps  string
		want   string
	}{
		// Those that are not live before step 0 are not taken.
		{0, "ret -1", "li a0, 0;"}, {8, "ret -1", "li a0, 0;"}, {1, "num 0 1; ret 0", "li t3, 1;"}, {3, "num 1 1; ret 1", "li t3, 1;"}, {2, "num 0 1; add 0 0 1; ret 0", "mv t3, a1; li t4, 1; add t4, t4, t3;"},
		{1, "ret 0", "mv t3, a0; mv a0, t3;"}, {8, "ret 7", "mv t3, a7; mv a0, t3;"}, {8, "ret 3", "mv t3, a3; mv a0, t3;"}, {3, "add 0 2 0; ret 0", "mv t3, a0; mv t4, a2; add t3, t4, t3;"},
		{4, "add 3 3 2; add 3 3 1; add 3 3 0; ret 3", "mv t3, a0; mv t4, a1; mv t5, a2; mv t6, a3; add t6, t6, t5;"},
		// Live before step 0 by a jump alone.
		{2, "label 0; num 1 1; if eq 0 1 0; ret -1", "mv t3, a0; .L1_0:; li t4, 1;"},
	} {
		begins(t, beside(c.params, max(c.params, 2), nil, c.steps), 0, front+c.want)
	}
	// All eight, in t3 to t6 and in kept ones; behind a call in kept ones alone.
	all := using(upTo(0, 8)...) + "ret -1"
	begins(t, beside(8, 8, nil, all), 0, "C.f:; li t0, 2097184; bgeu sp, t0, .K1_s; j .over; .K1_s:; addi sp, sp, -32; sw ra, 0(sp); sw s1, 4(sp); sw s2, 8(sp); sw s3, 12(sp); sw s4, 16(sp); mv t3, a0; mv t4, a1; mv t5, a2; mv t6, a3; mv s1, a4; mv s2, a5; mv s3, a6; mv s4, a7; mv t0, t3;")
	begins(t, beside(8, 8, nil, "call -1 main;"+all), 0, "C.f:; li t0, 2097200; bgeu sp, t0, .K1_s; j .over; .K1_s:; addi sp, sp, -48; sw ra, 0(sp); sw s1, 4(sp); sw s2, 8(sp); sw s3, 12(sp); sw s4, 16(sp); sw s5, 20(sp); sw s6, 24(sp); sw s7, 28(sp); sw s8, 32(sp); mv s1, a0; mv s2, a1; mv s3, a2; mv s4, a3; mv s5, a4; mv s6, a5; mv s7, a6; mv s8, a7; call C.main;")
}

// Params that are used last give their machine registers up.
func TestEmitParamsInSpills(t *testing.T) {
	t.Parallel()
	for count := 1; count <= 8; count++ {
		// Sixteen others, which are used before them; the first param last, so that it has the first spill.
		steps := setting(8, 24) + using(upTo(8, 24)...) + using(backwards(upTo(0, count))...) + "ret -1"
		stores := []string{}
		for param := range count {
			stores = append(stores, fmt.Sprintf("sw a%d, %d(sp)", param, 4*param))
		}
		text := funLines(t, beside(8, 24, nil, steps), 1, 0)
		if want := fmt.Sprintf("sw s11, %d(sp); %s; li ", 4*count+48, strings.Join(stores, "; ")); !strings.Contains(text, want) {
			t.Errorf("%d: %.900s\nhas no %s", count, text, want)
		}
	}
	// By turns: the odd ones are used before the others.
	text := funLines(t, beside(8, 20, nil, setting(8, 20)+using(1, 3, 5, 7)+using(upTo(8, 20)...)+using(6, 4, 2, 0)+"ret -1"), 1, 0)
	if want := "sw a0, 0(sp); mv t4, a1; sw a2, 4(sp); mv t6, a3; sw a4, 8(sp); mv s2, a5; sw a6, 12(sp); mv s4, a7; li "; !strings.Contains(text, want) {
		t.Errorf("%.900s\nhas no %s", text, want)
	}
	// In a spill, but not live before step 0.
	text = funLines(t, beside(2, 20, nil, "num 1 5;"+setting(2, 18)+using(upTo(2, 18)...)+using(1, 0)+"ret -1"), 1, 0)
	if want := "; sw a0, 0(sp); li t0, 5; sw t0, 4(sp); "; !strings.Contains(text, want) {
		t.Errorf("%.900s\nhas no %s", text, want)
	}
}

// farParam is a function whose param gets the spill behind those that stay there from the beginning.
func farParam(before int) impl.Ir {
	last := 16 + before
	return beside(1, last+1, nil, setting(1, last+1)+using(last)+using(upTo(1, 16)...)+using(0)+using(upTo(16, last)...)+"ret -1")
}

func TestEmitFarSpills(t *testing.T) {
	t.Parallel()
	for before, want := range map[int]string{0: "sw a0, 0(sp)", 510: "sw a0, 2040(sp)", 511: "sw a0, 2044(sp)", 512: "li t2, 2048; add t2, t2, sp; sw a0, 0(t2)", 600: "li t2, 2400; add t2, t2, sp; sw a0, 0(t2)"} {
		text := funLines(t, farParam(before), 1, 0)
		if !strings.Contains(text, "; "+want+"; li t4, 1; ") {
			t.Errorf("%.900s\nhas no %s", text, want)
		}
		if want = strings.ReplaceAll(want, "sw a0", "lw t0"); !strings.Contains(text, "; "+want+"; li a0, 1; ") {
			t.Errorf("%.900s\nhas no %s", text, want)
		}
	}
}

// wide is a code whose main has steps between the labels 1000 and 1001: register 16 has spill 0, 527 the spill at 2044,
// 528 and 529 those at 2048 and 2052; 3, 4 and 5 are in t6, s1 and s2. With a call 12 has spill 0, 523 the one at 2044,
// 524 and 525 those behind, and 3, 4 and 5 are in s4, s5 and s6.
func wide(steps string) impl.Ir {
	ir := alone(600, nil, setting(0, 600)+"label 1000;"+steps+"; label 1001;"+using(upTo(0, 600)...)+"ret -1")
	ir.Funs = append(ir.Funs, impl.IrFun{Name: "g", Params: 3, Regs: 3, Code: stepsFrom("ret -1")})
	return ir
}

func TestEmitStepsOfFarSpills(t *testing.T) {
	t.Parallel()
	far := func(word, reg string, at int) string {
		return fmt.Sprintf("li t2, %d; add t2, t2, sp; %s %s, 0(t2)", at, word, reg)
	}
	copies := "li a0, 3; add a0, a0, t0; .K0_601:; lbu a1, 0(t1); sb a1, 0(t0); addi t0, t0, 1; addi t1, t1, 1; bltu t0, a0, .K0_601"
	for steps, want := range map[string]string{
		"num 527 7":           "li t0, 7; sw t0, 2044(sp)",
		"num 528 7":           "li t0, 7; " + far("sw", "t0", 2048),
		"num 599 7":           "li t0, 7; " + far("sw", "t0", 2332),
		"move 528 528":        far("lw", "t0", 2048) + "; " + far("sw", "t0", 2048),
		"move 3 528":          far("lw", "t0", 2048) + "; mv t6, t0",
		"move 528 3":          "mv t0, t6; " + far("sw", "t0", 2048),
		"move 527 528":        far("lw", "t0", 2048) + "; sw t0, 2044(sp)",
		"move 528 527":        "lw t0, 2044(sp); " + far("sw", "t0", 2048),
		"add 528 527 529":     "lw t0, 2044(sp); " + far("lw", "t1", 2052) + "; add t0, t0, t1; " + far("sw", "t0", 2048),
		"sub 16 529 527":      far("lw", "t0", 2052) + "; lw t1, 2044(sp); sub t0, t0, t1; sw t0, 0(sp)",
		"mul 3 528 529":       far("lw", "t0", 2048) + "; " + far("lw", "t1", 2052) + "; mul t6, t0, t1",
		"narrow u16 528 528":  far("lw", "t0", 2048) + "; slli t0, t0, 16; srli t0, t0, 16; " + far("sw", "t0", 2048),
		"narrow u8 527 3":     "andi t0, t6, 255; sw t0, 2044(sp)",
		"load w 528 529":      far("lw", "t0", 2052) + "; lw t0, 0(t0); " + far("sw", "t0", 2048),
		"store u8 528 529":    far("lw", "t0", 2048) + "; " + far("lw", "t1", 2052) + "; sb t1, 0(t0)",
		"store w 3 528":       far("lw", "t1", 2048) + "; sw t1, 0(t6)",
		"addr 528 main 4":     "la t0, C.main+4; " + far("sw", "t0", 2048),
		"if geu 528 529 1000": far("lw", "t0", 2048) + "; " + far("lw", "t1", 2052) + "; bltu t0, t1, .K0_601; j .L0_1000; .K0_601:",
		"copy 528 529 3":      far("lw", "t0", 2048) + "; " + far("lw", "t1", 2052) + "; " + copies,
		"copy 3 528 3":        far("lw", "t1", 2048) + "; mv t0, t6; " + copies,
		"zero 528 3":          far("lw", "t0", 2048) + "; li a0, 3; add a0, a0, t0; .K0_601:; sb zero, 0(t0); addi t0, t0, 1; bltu t0, a0, .K0_601",
		"call 524 g 3 523 524": "mv a0, s4; lw a1, 2044(sp); " + far("lw", "a2", 2048) + "; call C.g; mv t0, a0; " +
			far("sw", "t0", 2048),
		"call 523 g 525 524 4": far("lw", "a0", 2052) + "; " + far("lw", "a1", 2048) + "; mv a2, s5; call C.g; mv t0, a0; sw t0, 2044(sp)",
		"callr 525 524 525":    far("lw", "t0", 2048) + "; " + far("lw", "a0", 2052) + "; jalr ra, 0(t0); mv t0, a0; " + far("sw", "t0", 2052),
		"callr -1 523":         "lw t0, 2044(sp); jalr ra, 0(t0)",
	} {
		if got := middle(t, wide(steps)); got != want {
			t.Errorf("%s:\n%s\nnot\n%s", steps, got, want)
		}
	}
	for steps, want := range map[string]string{"ret 527": "lw a0, 2044(sp); ", "ret 528": far("lw", "a0", 2048) + "; ", "ret 16": "lw a0, 0(sp); "} {
		if got := middle(t, wide(steps)); !strings.HasPrefix(got, want+far("lw", "ra", 2336)+"; "+far("lw", "s0", 2340)+"; ") {
			t.Errorf("%s: %s", steps, got)
		}
	}
}

// ra and the kept registers at the last place that an instruction can reach, and behind it.
func TestEmitFarKeptRegisters(t *testing.T) {
	t.Parallel()
	far := func(word, reg string, at int) string {
		return fmt.Sprintf("li t2, %d; add t2, t2, sp; %s %s, 0(t2)", at, word, reg)
	}
	for slot, places := range map[int][3]string{
		2036: {"W ra, 2036(sp)", "W s1, 2040(sp)", "W s2, 2044(sp)"},
		2040: {"W ra, 2040(sp)", "W s1, 2044(sp)", far("W", "s2", 2048)},
		2041: {"W ra, 2044(sp)", far("W", "s1", 2048), far("W", "s2", 2052)},
		2044: {"W ra, 2044(sp)", far("W", "s1", 2048), far("W", "s2", 2052)},
		2045: {far("W", "ra", 2048), far("W", "s1", 2052), far("W", "s2", 2056)},
		2048: {far("W", "ra", 2048), far("W", "s1", 2052), far("W", "s2", 2056)},
	} {
		text := funLines(t, alone(2, []int{slot}, acrossACall(2)), 0, 0)
		all := strings.Join(places[:], "; ")
		if want := "sub sp, sp, t0; " + strings.ReplaceAll(all, "W ", "sw ") + "; li s1, 1; "; !strings.Contains(text, want) {
			t.Errorf("%d: %s\nhas no %s", slot, text, want)
		}
		if want := "li a0, 0; " + strings.ReplaceAll(all, "W ", "lw ") + "; li t0, "; !strings.Contains(text, want) {
			t.Errorf("%d: %s\nhas no %s", slot, text, want)
		}
	}
}
