package tests

import (
	"math"
	"slices"
	"strings"
	"testing"

	"loop.example/s01681/impl"
)

func TestEmitAsksForAStack(t *testing.T) {
	t.Parallel()
	ir := mainOf("addr 0 d; ret 0")
	for _, stack := range []int{0, 16, 32, 64, 4096, 65504, 65520, impl.MaxStack} {
		lines := emit(t, ir, stack)
		if want := (impl.Line{Kind: impl.LineLi, In: impl.Inst{Rd: 5}, N: 2097152 - stack + 16}); !slices.Contains(lines, want) {
			t.Errorf("%d: there is no %v", stack, want)
		}
	}
	for _, stack := range []int{-1, -8, -16, -4096, -65536, 1, 2, 4, 8, 15, 17, 24, 31, 100, 65519, 65521, 65535, 65537, 65544, 65552, 65600, 131072, 1 << 32, math.MaxInt, math.MaxInt - 15, math.MinInt} {
		if lines := emit(t, ir, stack); len(lines) != 0 {
			t.Errorf("%d: %d lines", stack, len(lines))
		}
	}
}

func TestEmitAsksForAValidCode(t *testing.T) {
	t.Parallel()
	for name, change := range map[string]func(ir *impl.Ir){
		"no main":             func(ir *impl.Ir) { ir.Funs[1].Name = "other" },
		"a main with params":  func(ir *impl.Ir) { ir.Funs[1].Params = 1 },
		"no function":         func(ir *impl.Ir) { ir.Funs = nil },
		"a name twice":        func(ir *impl.Ir) { ir.Data[0].Name = "f" },
		"no bytes":            func(ir *impl.Ir) { ir.Data[0].Bytes = nil },
		"a Ref to nothing":    func(ir *impl.Ir) { ir.Data[0].Refs[0].Sym = "x" },
		"a Ref to putchar":    func(ir *impl.Ir) { ir.Data[0].Refs[0].Sym = "putchar" },
		"a Ref too far":       func(ir *impl.Ir) { ir.Data[0].Refs[0].N = impl.MaxObject + 1 },
		"a Ref at 1":          func(ir *impl.Ir) { ir.Data[0].Refs[0].At = 1 },
		"a Ref upon bytes":    func(ir *impl.Ir) { ir.Data[0].Bytes[2] = 1 },
		"a name with a dot":   func(ir *impl.Ir) { ir.Data[0].Name = "a.b" },
		"no name":             func(ir *impl.Ir) { ir.Funs[0].Name = "" },
		"a long name":         func(ir *impl.Ir) { ir.Funs[0].Name = strings.Repeat("f", impl.MaxName+1) },
		"a function putchar":  func(ir *impl.Ir) { ir.Funs[0].Name = "putchar" },
		"a function while":    func(ir *impl.Ir) { ir.Funs[0].Name = "while" },
		"no steps":            func(ir *impl.Ir) { ir.Funs[1].Code = nil },
		"no ret at the end":   func(ir *impl.Ir) { ir.Funs[1].Code = ir.Funs[1].Code[:1] },
		"too many registers":  func(ir *impl.Ir) { ir.Funs[1].Regs = impl.MaxRegs + 1 },
		"too few registers":   func(ir *impl.Ir) { ir.Funs[1].Regs = 0 },
		"a slot of no bytes":  func(ir *impl.Ir) { ir.Funs[1].Slots[0] = 0 },
		"a slot too great":    func(ir *impl.Ir) { ir.Funs[1].Slots[1] = impl.MaxObject + 1 },
		"too many slots":      func(ir *impl.Ir) { ir.Funs[1].Slots = slices.Repeat([]int{1}, impl.MaxSlots+1) },
		"too much of a field": func(ir *impl.Ir) { ir.Funs[1].Code[0].B = 1 },
		"no Op":               func(ir *impl.Ir) { ir.Funs[1].Code[0].Op = 17 },
	} {
		ir := roomyIr(mainOf("addr 0 d; ret 0"))
		if lines := emit(t, ir, 64); len(lines) == 0 {
			t.Error("there are no lines")
		}
		change(&ir)
		if lines := emit(t, ir, 64); len(lines) != 0 {
			t.Errorf("%s: %d lines", name, len(lines))
		}
	}
}

// codeOfLines is a code that has as many lines, most of them labels of main, or bytes, or those of many functions.
func codeOfLines(count int, how string) impl.Ir {
	ir := impl.Ir{Data: []impl.IrData{}, Funs: []impl.IrFun{{Name: "main"}}}
	// 20 ahead of the functions, 11 for each function without steps but a ret, the LineData.
	left := count - 20 - 11 - 1
	add := func(name string, labels int) {
		ir.Funs = append(ir.Funs, impl.IrFun{Name: name, Code: stepsFrom(manyLabels(0, labels) + "ret -1")})
		left -= 11 + labels
	}
	switch how {
	case "labels":
		for _, name := range []string{"f", "g"} {
			add(name, impl.MaxIr-1)
		}
	case "functions":
		for i := range impl.MaxFuns - 2 {
			add("f"+decimal(i), 10)
		}
		add("last", impl.MaxIr-1)
	case "bytes":
		bytes := []byte(strings.Repeat("b", left-2-5))
		ir.Data = append(ir.Data, impl.IrData{Name: "d", Bytes: bytes})
		left -= len(bytes) + 2
	}
	ir.Funs[0].Code = stepsFrom(manyLabels(0, left) + "ret -1")
	return ir
}

func TestEmitAtTheMostLines(t *testing.T) {
	t.Parallel()
	for _, how := range []string{"labels", "functions", "bytes"} {
		for _, count := range []int{impl.MaxLines - 1, impl.MaxLines} {
			if got := len(emit(t, codeOfLines(count, how), 4096)); got != count {
				t.Errorf("%s: %d lines, not %d", how, got, count)
			}
		}
		for _, count := range []int{impl.MaxLines + 1, impl.MaxLines + 2, impl.MaxLines + 70} {
			ir := codeOfLines(count, how)
			if lines := emit(t, ir, 4096); len(lines) != 0 {
				t.Errorf("%s: %d lines", how, len(lines))
			}
			// The code is valid, and has its frames all the same.
			if got := frames(t, ir); len(got) != len(ir.Funs) || got[0] != 16 {
				t.Errorf("%s: frames %v", how, got)
			}
		}
	}
	// Steps that are not written do not count.
	ir := codeOfLines(impl.MaxLines, "labels")
	ir.Funs[0].Regs = 1
	ir.Funs[0].Code = slices.Concat(stepsFrom("num 0 1"), slices.Repeat(stepsFrom("move 0 0"), 900), ir.Funs[0].Code[1:])
	if got := len(emit(t, ir, 0)); got != impl.MaxLines {
		t.Errorf("%d lines", got)
	}
}

// Codes with far more lines than there may be: all functions, steps and bytes that a valid code may have of one kind.
func TestEmitFarTooMuch(t *testing.T) {
	t.Parallel()
	ir := impl.Ir{Funs: []impl.IrFun{{Name: "main", Code: stepsFrom(manyLabels(0, impl.MaxIr-1) + "ret -1")}}}
	for i := range 40 {
		f := ir.Funs[0]
		f.Name = "f" + decimal(i)
		ir.Funs = append(ir.Funs, f)
	}
	if lines, ok := impl.Emit(ir, 0); ok || len(lines) != 0 {
		t.Errorf("%d lines", len(lines))
	}
	data := impl.Ir{Data: []impl.IrData{{Name: "d", Bytes: []byte(strings.Repeat("b", impl.MaxObject))}}, Funs: []impl.IrFun{{Name: "main", Code: stepsFrom("ret -1")}}}
	if lines := emit(t, data, 0); len(lines) != 0 {
		t.Errorf("%d lines", len(lines))
	}
	many := data
	many.Data = []impl.IrData{{Name: "d", Bytes: make([]byte, impl.MaxObject)}}
	if lines := emit(t, many, 0); len(lines) != 20+11+1+3 {
		t.Errorf("%d lines", len(lines))
	}
}

// A text that is too great, and words that are too many, are the lines' affair no longer: Emit gives them.
func TestEmitOfMoreThanAnImage(t *testing.T) {
	t.Parallel()
	ir := alone(1, nil, strings.Repeat("num 0 65536;", impl.MaxIr-1)+"ret -1")
	f := ir.Funs[0]
	f.Name = "f"
	ir.Funs = append(ir.Funs, f)
	lines := emit(t, ir, 0)
	if _, code, _ := impl.Assemble(lines, 0); len(lines) < 16000 || code != 5 {
		t.Errorf("%d lines, and %d", len(lines), code)
	}
	name := strings.Repeat("n", impl.MaxName)
	ir = alone(1, nil, strings.Repeat("addr 0 "+name+" 60000;", impl.MaxIr-1)+"ret -1")
	ir.Data = []impl.IrData{{Name: name, Bytes: []byte{0}}}
	lines = emit(t, ir, 0)
	if text, ok := impl.PrintAsm(lines); len(lines) < 8000 || ok || len(text) != 0 {
		t.Errorf("%d lines, and %v", len(lines), ok)
	}
}
