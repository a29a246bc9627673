package tests

import (
	"fmt"
	"slices"
	"strings"
	"sync"
	"testing"

	"loop.example/s01681/impl"
)

// emit asks Emit twice and Frames, and sees that the code is as it was behind each call, that the answers are the same
// in new memory, that they are those of the second reading, and that promise 13 holds for them. It gives nothing where Emit
// says false.
func emit(t *testing.T, ir impl.Ir, stack int) []impl.Line {
	t.Helper()
	name := fmt.Sprintf("%.1500s\nand a stack of %d", irText(ir), stack)
	ask := func() ([]impl.Line, bool) {
		ok := false
		lines := unwrittenIr(t, ir, func(given impl.Ir) []impl.Line {
			lines, is := impl.Emit(given, stack)
			ok = is
			return lines
		})
		return lines, ok
	}
	got, ok := ask()
	again, okAgain := ask()
	if ok != okAgain || !slices.Equal(got, again) {
		t.Errorf("%s: once %v and %d lines, once %v and %d", name, ok, len(got), okAgain, len(again))
	}
	if touch(got, again) {
		t.Errorf("%s: two answers share memory", name)
	}
	want, wrong := emitBy(ir, stack)
	if ok != (wrong == "") || !ok && len(got) > 0 {
		t.Errorf("%s: %v and %d lines, by the second reading: %s", name, ok, len(got), wrong)
	}
	if ok && sameTexts(t, name, got, want) {
		holdsTogether(t, name, got, want, stack)
	}
	if sizes, want := impl.Frames(ir), framesBy(ir); !slices.Equal(sizes, want) {
		t.Errorf("%s: %v, by the second reading %v", name, sizes, want)
	}
	return got
}

// frames asks Frames twice, and sees the same of it.
func frames(t *testing.T, ir impl.Ir) []int {
	t.Helper()
	sizes, again := unwrittenIr(t, ir, impl.Frames), unwrittenIr(t, ir, impl.Frames)
	if want := framesBy(ir); !slices.Equal(sizes, want) || !slices.Equal(again, want) || touch(sizes, again) {
		t.Errorf("%.1500s: %v, %v, by the second reading %v", irText(ir), sizes, again, want)
	}
	return sizes
}

// sameTexts sees that each line is well formed and has its text, and tells the first that does not.
func sameTexts(t *testing.T, name string, lines []impl.Line, want []string) bool {
	t.Helper()
	for i, l := range lines {
		if !impl.LineOk(l) {
			t.Errorf("%s: line %d, %v, is not well formed", name, i, l)
			return false
		}
		if text := bareText(l); i >= len(want) || text != want[i] {
			t.Errorf("%s: line %d is %q, by the second reading of %d: %q", name, i, text, len(want), want[i:min(i+1, len(want))])
			return false
		}
	}
	if len(lines) < len(want) {
		t.Errorf("%s: %d lines, by the second reading %d: %q", name, len(lines), len(want), want[len(lines)])
	}
	return len(lines) == len(want)
}

func bareText(l impl.Line) string {
	return strings.TrimSpace(textOf(l))
}

// bareTexts writes lines with a ; between, without blanks at their ends.
func bareTexts(lines []impl.Line) string {
	texts := []string{}
	for _, l := range lines {
		texts = append(texts, bareText(l))
	}
	return strings.Join(texts, "; ")
}

// holdsTogether is promise 13: lines with these texts can be printed and read again, and assembled, but for their size, and
// each label that they name is there, once.
func holdsTogether(t *testing.T, name string, lines []impl.Line, texts []string, stack int) {
	t.Helper()
	size := 0
	there := map[string]int{}
	for i, l := range lines {
		size += len(texts[i]) + len("  \n")
		if l.Kind == impl.LineLabel {
			size -= len("  ")
			there[l.Sym]++
		}
	}
	for _, l := range lines {
		if l.Sym != "" && there[l.Sym] != 1 {
			t.Errorf("%s: label %s stands at %d places", name, l.Sym, there[l.Sym])
			return
		}
	}
	text, ok := impl.PrintAsm(lines)
	if ok != (size <= impl.MaxAsm) {
		t.Errorf("%s: a text of %d bytes is printed: %v", name, size, ok)
	}
	if read, code, at := impl.ParseAsm(text); ok && (code != 0 || !slices.Equal(read, lines)) {
		t.Errorf("%s: %d at line %d when it is read, or other lines", name, code, at)
	}
	words := 0
	for _, l := range lines {
		words += wordsBy(l)
	}
	image, code, at := impl.Assemble(lines, stack)
	switch {
	case words > impl.MaxCode:
		if code != 5 {
			t.Errorf("%s: %d words are assembled with %d at %d", name, words, code, at)
		}
	case code != 0 || !impl.ImageOk(image) || len(image.Code) != words || image.Entry != impl.CodeBase || image.Stack != stack:
		t.Errorf("%s: assembled with %d at %d to %d words, not %d", name, code, at, len(image.Code), words)
	}
}

// wordsBy is how many words a line of text takes.
func wordsBy(l impl.Line) int {
	switch l.Kind {
	case impl.LineInst, impl.LineJump, impl.LineMv, impl.LineJ, impl.LineCall, impl.LineRet:
		return 1
	case impl.LineLa:
		return 2
	case impl.LineLi:
		if l.N <= 2047 || l.N >= 1<<32-2048 {
			return 1
		}
		return 2
	}
	return 0
}

// emitted are the codes that emitOnce has seen.
var emitted sync.Map

// emitOnce does what emit does, for a code of a right source that has not come up yet, with one of the stacks.
func emitOnce(t *testing.T, ir impl.Ir) {
	t.Helper()
	text := irText(ir)
	if _, done := emitted.LoadOrStore(text, true); !done && len(ir.Funs) > 0 {
		emit(t, ir, len(text)*16%(impl.MaxStack+16))
	}
}

// funLines gives the texts of the function f of a code, those of the lines from its label up to the next function's, or to
// the data.
func funLines(t *testing.T, ir impl.Ir, f, stack int) string {
	t.Helper()
	lines := emit(t, ir, stack)
	end := impl.Line{Kind: impl.LineData}
	if f+1 < len(ir.Funs) {
		end = impl.Line{Kind: impl.LineLabel, Sym: "C." + ir.Funs[f+1].Name}
	}
	return bareTexts(lines[slices.Index(lines, impl.Line{Kind: impl.LineLabel, Sym: "C." + ir.Funs[f].Name}):slices.Index(lines, end)])
}

// alone is a code of one function, a main.
func alone(regs int, slots []int, steps string) impl.Ir {
	return impl.Ir{Funs: []impl.IrFun{{Name: "main", Regs: regs, Slots: slots, Code: stepsFrom(steps)}}}
}

// beside is a code of one function f with params, behind a main that does nothing.
func beside(params, regs int, slots []int, steps string) impl.Ir {
	return impl.Ir{Funs: []impl.IrFun{{Name: "main", Code: stepsFrom("ret -1")}, {Name: "f", Params: params, Regs: regs, Slots: slots, Code: stepsFrom(steps)}}}
}

// The whole of a code, field by field.
func TestEmitEachField(t *testing.T) {
	t.Parallel()
	ir := impl.Ir{
		Data: []impl.IrData{{Name: "d", Bytes: []byte{9, 0, 0, 0, 0, 0, 0, 0}, Refs: []impl.IrRef{{At: 4, Sym: "d", N: 3}}}},
		Funs: []impl.IrFun{{Name: "main", Regs: 3, Slots: []int{1}, Code: stepsFrom("label 7; num 0 4294967295; slot 1 0; store u16 1 0; load i8 2 1; if lt 0 2 7; addr 1 d 2; sub 1 1 0; call -1 putchar 1; ret 1")}},
	}
	label := func(sym string) impl.Line { return impl.Line{Kind: 1, Sym: sym} }
	inst := func(op, rd, rs1, rs2, imm int) impl.Line {
		return impl.Line{Kind: 2, In: impl.Inst{Op: op, Rd: rd, Rs1: rs1, Rs2: rs2, Imm: imm}}
	}
	li := func(rd, n int) impl.Line { return impl.Line{Kind: 4, In: impl.Inst{Rd: rd}, N: n} }
	mv := func(rd, rs1 int) impl.Line { return impl.Line{Kind: 6, In: impl.Inst{Rd: rd, Rs1: rs1}} }
	ecall, ret := impl.Line{Kind: 2, In: impl.Inst{Op: 46}}, impl.Line{Kind: 9}
	want := []impl.Line{
		{Kind: 10}, label("_start"), {Kind: 8, Sym: "C.main"}, li(17, 3), ecall, label(".over"), li(17, 4), ecall,
		label("C.putchar"), li(17, 1), ecall, ret, label("C.getchar"), li(17, 2), ecall, ret, label("C.exit"), li(17, 3), ecall, ret,
		label("C.main"), li(5, 2097152-64+16), {Kind: 3, In: impl.Inst{Op: 42, Rs1: 2, Rs2: 5}, Sym: ".K0_s"}, {Kind: 7, Sym: ".over"}, label(".K0_s"),
		inst(19, 2, 2, 0, -16), inst(36, 0, 2, 1, 4), inst(36, 0, 2, 9, 8),
		label(".L0_7"), li(28, 1<<32-1), inst(19, 9, 2, 0, 0), inst(35, 0, 9, 28, 0), inst(28, 29, 9, 0, 0),
		{Kind: 3, In: impl.Inst{Op: 40, Rs1: 28, Rs2: 29}, Sym: ".K0_5"}, {Kind: 7, Sym: ".L0_7"}, label(".K0_5"),
		{Kind: 5, In: impl.Inst{Rd: 9}, Sym: "C.d", N: 2}, inst(2, 9, 9, 28, 0),
		mv(10, 9), {Kind: 8, Sym: "C.putchar"}, mv(10, 9), inst(30, 1, 2, 0, 4), inst(30, 9, 2, 0, 8), inst(19, 2, 2, 0, 16), ret,
		{Kind: 11}, {Kind: 16, N: 4}, label("C.d"), {Kind: 12, N: 9}, {Kind: 15, N: 3}, {Kind: 14, Sym: "C.d", N: 3},
	}
	got := emit(t, ir, 64)
	for i := range max(len(got), len(want)) {
		if i >= len(got) || i >= len(want) || got[i] != want[i] {
			t.Fatalf("line %d: %v, not %v", i, got[i:min(i+1, len(got))], want[i:min(i+1, len(want))])
		}
	}
}

// The document's example.
func TestEmitExample(t *testing.T) {
	t.Parallel()
	ir := lowered(t, "int f(int a) { if (a < 3) return 1; else a--; return a; }\nint main(void) { return f(9); }\n")
	want := ".text; _start:; call C.main; li a7, 3; ecall; .over:; li a7, 4; ecall; C.putchar:; li a7, 1; ecall; ret; C.getchar:; li a7, 2; ecall; ret; C.exit:; li a7, 3; ecall; ret; " +
		"C.f:; li t0, 2093072; bgeu sp, t0, .K0_s; j .over; .K0_s:; addi sp, sp, -16; sw ra, 0(sp); mv t3, a0; mv t4, t3; li t5, 3; blt t4, t5, .K0_2; j .L0_0; .K0_2:; li t4, 1; mv a0, t4; lw ra, 0(sp); addi sp, sp, 16; ret; " +
		"j .L0_1; .L0_0:; li t4, 1; mv t5, t3; sub t6, t5, t4; mv t3, t6; .L0_1:; mv t4, t3; mv a0, t4; lw ra, 0(sp); addi sp, sp, 16; ret; li t3, 0; mv a0, t3; lw ra, 0(sp); addi sp, sp, 16; ret; " +
		"C.main:; li t0, 2093072; bgeu sp, t0, .K1_s; j .over; .K1_s:; addi sp, sp, -16; sw ra, 0(sp); li t3, 9; mv a0, t3; call C.f; mv t4, a0; mv a0, t4; lw ra, 0(sp); addi sp, sp, 16; ret; li t3, 0; mv a0, t3; lw ra, 0(sp); addi sp, sp, 16; ret; .data"
	lines := emit(t, ir, 4096)
	if got := bareTexts(lines); got != want {
		t.Errorf("%s\nnot\n%s", got, want)
	}
	image, code, at := impl.Assemble(lines, 4096)
	m, ok := impl.StartMachine(image, nil)
	if m = impl.RunMachine(m, 1000); code != 0 || !ok || m.End != impl.EndExit || m.Value != 8 || m.Steps != 35 {
		t.Errorf("%d at %d: ends with %d and %d after %d steps", code, at, m.End, m.Value, m.Steps)
	}
}
