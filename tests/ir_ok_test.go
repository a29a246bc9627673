package tests

import (
	"fmt"
	"strings"
	"testing"

	"loop.example/s01681/impl"
)

// irOk asks IrOk, and sees that the code is as it was, that the second reading says the same, and that RunIr takes it
// just when it is valid.
func irOk(t *testing.T, ir impl.Ir) bool {
	t.Helper()
	ok := unwrittenIr(t, ir, impl.IrOk)
	if wrong := irOkBy(ir); ok != (wrong == "") {
		t.Errorf("%.1500s\nis valid: %v, by the second reading: %s", irText(ir), ok, wrong)
	}
	o := unwrittenIr(t, ir, func(given impl.Ir) impl.Outcome { return impl.RunIr(given, nil, 0) })
	if nothing := (impl.Outcome{End: impl.EndFault}); ok == sameOutcome(o, nothing) {
		t.Errorf("%.1500s\nis valid: %v, but runs as %v", irText(ir), ok, o)
	}
	return ok
}

func isValid(t *testing.T, want bool, name string, ir impl.Ir) {
	t.Helper()
	if irOk(t, ir) != want {
		t.Errorf("%.300s: valid: %v", name, !want)
	}
}

// stepsAre sees of steps, each in a main with a return behind it, whether they are valid. A label 5 stands there, unless
// the text has one.
func stepsAre(t *testing.T, want bool, texts ...string) {
	t.Helper()
	for _, text := range texts {
		around := text
		if !strings.Contains(text, "label") {
			around += "; label 5"
		}
		isValid(t, want, text, mainOf(around+"; ret -1"))
	}
}

// changed sees whether a code that is valid is so when it has been changed.
func changed(t *testing.T, want bool, name string, change func(ir *impl.Ir)) {
	t.Helper()
	ir := roomyIr(mainOf("addr 0 d; ret 0"))
	change(&ir)
	isValid(t, want, name, ir)
}

// stepTexts gives steps of a function with four registers, slots of 5 and 8 bytes and a label 5: right ones, wrong ones, and
// ones that are wrong for their names alone, or for the number of their Args, beside mainOf's data d and function f.
func stepTexts() (right, wrong, misnamed []string) {
	right = []string{"num 0 0", "num 3 4294967295", "num 0 1", "move 0 0", "move 3 3", "move 0 3", "ret 0", "ret 3", "ret -1", "label 0", "label 9223372036854775807", "label 4294967296", "jump 5", "copy 0 0 1", "copy 3 3 60000", "zero 0 1", "zero 3 60000", "slot 0 0", "slot 3 1", "addr 0 d", "addr 3 d 60000", "addr 0 f", "addr 0 main 1", "addr 2 f 60000"}
	wrong = []string{"num 4 0", "num -1 0", "num -2 0", "num 0 -1", "num 0 4294967296", "num 0 9223372036854775807", "num 0 -9223372036854775808", "move 4 0", "move -1 0", "move 0 4", "move 0 -1", "ret 4", "ret -2", "ret 9223372036854775807", "ret -9223372036854775808", "label -1", "label -9223372036854775808", "label 1; label 1", "label 0; label 2; label 0", "jump 4", "jump -1", "jump 0", "label -1; jump -1", "copy 4 0 1", "copy -1 0 1", "copy 0 4 1", "copy 0 -1 1", "copy 0 0 0", "copy 0 0 -1", "copy 0 0 60001", "zero 4 1", "zero -1 1", "zero 0 0", "zero 0 -1", "zero 0 60001", "slot 4 0", "slot -1 0", "slot 0 2", "slot 0 -1", "addr 4 d", "addr -1 d", "addr 0 d -1", "addr 0 d 60001", "addr 0 f 60001"}
	misnamed = []string{"addr 0 x", "addr 0 putchar", "addr 0 getchar", "addr 0 exit", "addr 0 $0", "addr 0 D"}
	for _, op := range strings.Fields("add sub sll slt sltu xor srl sra or and mul mulh mulhsu mulhu div divu rem remu") {
		right = append(right, op+" 0 0 0", op+" 3 3 3", op+" 0 1 2")
		wrong = append(wrong, op+" 4 0 0", op+" 0 4 0", op+" 0 0 4", op+" -1 0 0", op+" 0 -1 0", op+" 0 0 -1")
	}
	for _, kind := range []string{"i8", "u8", "i16", "u16", "w"} {
		if kind == "w" {
			wrong = append(wrong, "narrow w 0 3", "narrow w 3 0")
		} else {
			right = append(right, "narrow "+kind+" 0 3", "narrow "+kind+" 3 0")
		}
		right = append(right, "load "+kind+" 0 3", "load "+kind+" 3 0", "store "+kind+" 0 3", "store "+kind+" 3 0")
		wrong = append(wrong, "narrow "+kind+" 4 0", "narrow "+kind+" 0 4", "narrow "+kind+" -1 0", "narrow "+kind+" 0 -1", "load "+kind+" 4 0", "load "+kind+" 0 4", "load "+kind+" -1 0", "load "+kind+" 0 -1", "store "+kind+" 4 0", "store "+kind+" 0 4", "store "+kind+" -1 0", "store "+kind+" 0 -1")
	}
	for _, test := range []string{"eq", "ne", "lt", "ge", "ltu", "geu"} {
		right = append(right, "if "+test+" 0 3 5", "if "+test+" 3 0 5", "label 0; if "+test+" 1 1 0")
		wrong = append(wrong, "if "+test+" 4 0 5", "if "+test+" 0 4 5", "if "+test+" -1 0 5", "if "+test+" 0 -1 5", "if "+test+" 0 0 4", "if "+test+" 0 0 -1", "label 0; if "+test+" 0 0 5")
	}
	wrong = append(wrong, "if gt 0 0 5", "if le 0 0 5", "if equ 0 0 5", "if EQ 0 0 5", "if beq 0 0 5", "if geuu 0 0 5", "if u 0 0 5")
	// A label may stand ahead of its jumps and behind them, and nobody need jump to it.
	right = append(right, "label 7; jump 7", "jump 7; label 7", "if eq 0 0 7; jump 9; label 7; label 9", "label 3; label 2; label 1; label 0")
	right = append(right, "call 0 f 0", "call -1 f 3", "call 3 f 3", "call 0 main", "call -1 main", "call 0 putchar 0", "call -1 putchar 3", "call 0 exit 0", "call -1 exit 3", "call 0 getchar", "call -1 getchar", "callr 0 0", "callr -1 3", "callr 3 0 0 1 2 3", "callr 0 0 0 0 0 0 0 0 0 0", "callr 0 0 3 2 1 0")
	wrong = append(wrong, "call 4 f 0", "call -2 f 0", "call 0 f 4", "call 0 f -1", "call 0 putchar 4", "call 0 exit -1", "call 4 getchar", "call -2 getchar", "callr 4 0", "callr -2 0", "callr 0 4", "callr 0 -1", "callr 0 0 4", "callr 0 0 -1", "callr 0 0 0 1 -1", "callr 0 0 0 0 0 0 0 0 0 0 0")
	misnamed = append(misnamed, "call 0 f", "call 0 f 0 1", "call 0 main 0", "call 0 g", "call 0 d", "call 0 d 0", "call 0 putchar", "call 0 putchar 0 1", "call 0 exit", "call 0 exit 1 0", "call 0 getchar 0", "call 0 getchar 0 0")
	return right, wrong, misnamed
}

func TestValidSteps(t *testing.T) {
	for op := 1; op <= 16; op++ {
		if len(irRowsBy[op]) == 0 {
			t.Fatalf("no row for %d", op)
		}
	}
	right, wrong, misnamed := stepTexts()
	stepsAre(t, true, right...)
	stepsAre(t, false, wrong...)
	stepsAre(t, false, misnamed...)
	// Operations and kinds by number, at their bounds and one beyond.
	for op, most := range map[int]int{impl.IrAlu: 18, impl.IrNarrow: 4, impl.IrLoad: 5, impl.IrStore: 5} {
		for _, n := range []int{-1 << 63, -1, 0, 1, 2, most - 1, most, most + 1, 19, 1<<63 - 1} {
			changed(t, n >= 1 && n <= most, fmt.Sprintf("Op %d with %d", op, n), func(ir *impl.Ir) { ir.Funs[1].Code[0] = impl.IrIns{Op: op, N: n} })
		}
	}
	changed(t, false, "no test", func(ir *impl.Ir) {
		ir.Funs[1].Code = append([]impl.IrIns{{Op: impl.IrIf}}, stepsFrom("label 0; ret -1")...)
	})
	// The labels of another function are not there.
	changed(t, false, "a jump to another's label", func(ir *impl.Ir) {
		ir.Funs[0].Code, ir.Funs[1].Code = stepsFrom("label 1; ret -1"), stepsFrom("jump 1; ret -1")
	})
	changed(t, true, "the same label in two", func(ir *impl.Ir) {
		ir.Funs[0].Code, ir.Funs[1].Code = stepsFrom("label 1; ret -1"), stepsFrom("jump 1; label 1; ret -1")
	})
}

func TestValidCalls(t *testing.T) {
	// A function with as many params as it can have, called with one too few, all, and one too many.
	for args := range 11 {
		for params := range 9 {
			changed(t, args == params, fmt.Sprintf("%d of %d", args, params), func(ir *impl.Ir) {
				ir.Funs[0].Params, ir.Funs[0].Regs = params, 8
				ir.Funs[1].Code = stepsFrom("call 0 f" + strings.Repeat(" 1", args) + "; ret -1")
			})
		}
		changed(t, args <= impl.MaxParams, "through a pointer", func(ir *impl.Ir) {
			ir.Funs[1].Code = stepsFrom("callr 0 1" + strings.Repeat(" 1", args) + "; ret -1")
		})
	}
	// The name of a call's function is not that of data, and a function can be called that stands behind.
	changed(t, true, "a function behind", func(ir *impl.Ir) { ir.Funs[0].Code = stepsFrom("call 0 main; ret -1") })
	changed(t, true, "itself", func(ir *impl.Ir) { ir.Funs[0].Code = stepsFrom("call 0 f 0; ret -1") })
}

// strayFields makes steps with a field that they have no use for, and hands out main's steps without it and with it.
func strayFields(do func(name string, without, with []impl.IrIns)) {
	for _, text := range []string{"num 1 1", "move 1 1", "add 1 1 1", "narrow i8 1 1", "load w 1 1", "store w 1 1", "addr 1 d 1", "slot 1 1", "call 1 f 1", "callr 1 1 1", "label 5", "jump 5", "if eq 1 1 5", "ret 1", "copy 1 1 1", "zero 1 1"} {
		base := aStep(text)
		row := strings.Join(irRowsBy[base.Op], " ") + " "
		for field, change := range map[string]func(in *impl.IrIns){
			"D":    func(in *impl.IrIns) { in.D = 1 },
			"A":    func(in *impl.IrIns) { in.A = 1 },
			"B":    func(in *impl.IrIns) { in.B = 1 },
			"N":    func(in *impl.IrIns) { in.N = 1 },
			"Sym":  func(in *impl.IrIns) { in.Sym = "d" },
			"Args": func(in *impl.IrIns) { in.Args = []int{0} },
			"-D":   func(in *impl.IrIns) { in.D = -1 },
			"-A":   func(in *impl.IrIns) { in.A = -1 },
			"-B":   func(in *impl.IrIns) { in.B = -1 },
			"-N":   func(in *impl.IrIns) { in.N = -1 },
		} {
			uses := strings.Contains(row, strings.TrimPrefix(field, "-")+" ") || strings.Contains(row, strings.TrimPrefix(field, "-")+":") || strings.Contains(row, strings.TrimPrefix(field, "-")+"?")
			if uses {
				continue
			}
			behind := "label 5; ret -1"
			if base.Op == impl.IrLabel {
				behind = "ret -1"
			}
			without, with := stepsFrom(text+";"+behind), stepsFrom(text+";"+behind)
			change(&with[0])
			do(text+" with "+field, without, with)
		}
	}
}

func TestFieldsWithoutUse(t *testing.T) {
	strayFields(func(name string, without, with []impl.IrIns) {
		ir := mainOf("")
		ir.Funs[1].Code = without
		isValid(t, true, name, ir)
		ir.Funs[1].Code = with
		isValid(t, false, name, ir)
	})
	// A list with nothing in it is none.
	changed(t, true, "empty lists", func(ir *impl.Ir) {
		ir.Funs[1].Code[0].Args, ir.Funs[0].Slots, ir.Data[0].Refs = []int{}, []int{}, []impl.IrRef{}
	})
	for _, op := range []int{0, 17, 18, -1, -14, 1 << 40, -1 << 63} {
		changed(t, false, fmt.Sprint("Op ", op), func(ir *impl.Ir) { ir.Funs[1].Code[0] = impl.IrIns{Op: op} })
		changed(t, false, fmt.Sprint("last Op ", op), func(ir *impl.Ir) { ir.Funs[1].Code[1] = impl.IrIns{Op: op} })
	}
}

func TestValidFunctions(t *testing.T) {
	for _, c := range []struct {
		want         bool
		params, regs int
	}{{true, 0, 0}, {true, 0, 1}, {true, 1, 1}, {true, 8, 8}, {true, 8, 2000}, {true, 0, 2000}, {false, 9, 9}, {false, 9, 2000}, {false, -1, 0}, {false, -1, -1}, {false, 0, -1}, {false, 1, 0}, {false, 8, 7}, {false, 0, 2001}, {false, 8, 2001}, {false, 1 << 62, 1 << 62}, {false, -1 << 63, -1 << 63}} {
		changed(t, c.want, fmt.Sprintf("%d Params and %d Regs", c.params, c.regs), func(ir *impl.Ir) {
			ir.Funs[0] = impl.IrFun{Name: "f", Params: c.params, Regs: c.regs, Code: stepsFrom("ret -1")}
		})
	}
	// The last register there is, and one more.
	for _, regs := range []int{1, 2, 77, 2000} {
		for _, reg := range []int{regs - 1, regs} {
			changed(t, reg < regs, fmt.Sprintf("register %d of %d", reg, regs), func(ir *impl.Ir) {
				ir.Funs[1].Regs = regs
				ir.Funs[1].Code = stepsFrom(fmt.Sprintf("num %d 1; ret %d", reg, reg))
			})
		}
	}
	changed(t, false, "a register where there are none", func(ir *impl.Ir) { ir.Funs[1].Regs = 0 })
	for _, c := range []struct {
		want  bool
		count int
		size  int
	}{{true, 0, 1}, {true, 1, 1}, {true, 200, 1}, {true, 200, 60000}, {true, 1, 60000}, {false, 201, 1}, {false, 1, 0}, {false, 200, 0}, {false, 1, -1}, {false, 1, 60001}, {false, 1, 1 << 62}, {false, 1, -1 << 63}} {
		changed(t, c.want, fmt.Sprintf("%d slots of %d", c.count, c.size), func(ir *impl.Ir) {
			ir.Funs[0].Slots = nil
			for range c.count {
				ir.Funs[0].Slots = append(ir.Funs[0].Slots, c.size)
			}
		})
	}
	changed(t, false, "the last slot", func(ir *impl.Ir) { ir.Funs[0].Slots = []int{1, 2, 3, 0} })
	for _, steps := range []int{1, 2, 7999, 8000, 8001} {
		changed(t, steps <= impl.MaxIr, fmt.Sprint(steps, " steps"), func(ir *impl.Ir) {
			ir.Funs[0].Code = stepsFrom(strings.Repeat("ret -1;", steps))
		})
	}
	changed(t, false, "no step", func(ir *impl.Ir) { ir.Funs[0].Code = nil })
	changed(t, false, "no step of main", func(ir *impl.Ir) { ir.Funs[1].Code = []impl.IrIns{} })
	for _, last := range []string{"num 0 0", "move 0 0", "label 1", "label 1; jump 1", "call -1 exit 0", "ret -1; label 2", "zero 0 1"} {
		changed(t, false, "at the end "+last, func(ir *impl.Ir) { ir.Funs[0].Code = stepsFrom(last) })
	}
}

func TestValidNumbersOfThings(t *testing.T) {
	for _, count := range []int{0, 1, 2, 299, 300, 301} {
		ir := impl.Ir{}
		for i := range count {
			ir.Funs = append(ir.Funs, impl.IrFun{Name: fmt.Sprint("f", i), Code: stepsFrom("ret -1")})
		}
		if count > 0 {
			ir.Funs[count-1].Name = "main"
		}
		isValid(t, count > 0 && count <= impl.MaxFuns, fmt.Sprint(count, " functions"), ir)
	}
	for _, count := range []int{0, 1, 499, 500, 501} {
		ir := impl.Ir{Funs: []impl.IrFun{{Name: "main", Code: stepsFrom("ret -1")}}}
		for i := range count {
			ir.Data = append(ir.Data, impl.IrData{Name: fmt.Sprint("$", i), Bytes: []byte{1}})
		}
		isValid(t, count <= impl.MaxGlobals, fmt.Sprint(count, " data"), ir)
	}
	isValid(t, false, "nothing", impl.Ir{})
	isValid(t, false, "no function", impl.Ir{Data: []impl.IrData{{Name: "d", Bytes: []byte{1}}}})
	changed(t, false, "no functions left", func(ir *impl.Ir) { ir.Funs = nil })
	changed(t, true, "no data", func(ir *impl.Ir) { ir.Data, ir.Funs[1].Code = nil, stepsFrom("ret -1") })
	// main.
	changed(t, false, "main is another", func(ir *impl.Ir) { ir.Funs[1].Name = "Main" })
	changed(t, false, "main has a param", func(ir *impl.Ir) { ir.Funs[1].Params = 1 })
	changed(t, false, "main is data", func(ir *impl.Ir) { ir.Funs[1].Name, ir.Data[0].Name, ir.Data[0].Refs = "g", "main", nil })
	changed(t, true, "main stands first", func(ir *impl.Ir) { ir.Funs[0], ir.Funs[1] = ir.Funs[1], ir.Funs[0] })
}

func TestValidNames(t *testing.T) {
	long := strings.Repeat("n", impl.MaxName)
	for _, name := range []string{"a", "_", "Z9", "_0", "a_b", long, "C", "ints", "If", "_while", "putchar_", "Exit", "e", "mainx"} {
		changed(t, true, "data "+name, func(ir *impl.Ir) {
			ir.Data[0] = impl.IrData{Name: name, Bytes: []byte{1}}
			ir.Funs[1].Code[0].Sym = name
		})
		changed(t, true, "function "+name, func(ir *impl.Ir) { ir.Funs[0].Name = name; ir.Funs[1].Code[0].Sym = name })
	}
	for _, name := range append(strings.Fields("break case char continue default do else enum for goto if int return short signed sizeof struct switch typedef union unsigned void while putchar getchar exit 0 9a a-b a.b .a $ $$ $a $-1 $+1 $00 $01 $007 $0000 $10000 $99999 $9999999999999999999999 $1.0 a$ $1a $1_0 $0x1 é aé"), "", " ", " a", "a ", "a b", "$ 1", "$1 ", "a\x00", "\x00", "a\n", "$1\n", long+"n", "\xff") {
		changed(t, false, "data "+name, func(ir *impl.Ir) {
			ir.Data[0] = impl.IrData{Name: name, Bytes: []byte{1}}
			ir.Funs[1].Code[0].Sym = name
		})
		changed(t, false, "function "+name, func(ir *impl.Ir) { ir.Funs[0].Name = name; ir.Funs[1].Code[0].Sym = name })
	}
	for _, name := range []string{"$0", "$1", "$9", "$10", "$99", "$100", "$999", "$1000", "$9999"} {
		changed(t, true, "data "+name, func(ir *impl.Ir) {
			ir.Data[0] = impl.IrData{Name: name, Bytes: []byte{1}}
			ir.Funs[1].Code[0].Sym = name
		})
		changed(t, false, "function "+name, func(ir *impl.Ir) { ir.Funs[0].Name = name; ir.Funs[1].Code[0].Sym = name })
	}
	// Twice.
	changed(t, false, "data twice", func(ir *impl.Ir) { ir.Data = append(ir.Data, impl.IrData{Name: "d", Bytes: []byte{1}}) })
	changed(t, true, "data once", func(ir *impl.Ir) { ir.Data = append(ir.Data, impl.IrData{Name: "e", Bytes: []byte{1}}) })
	changed(t, false, "a text twice", func(ir *impl.Ir) {
		ir.Data = append(ir.Data, impl.IrData{Name: "$3", Bytes: []byte{1}}, impl.IrData{Name: "e", Bytes: []byte{1}}, impl.IrData{Name: "$3", Bytes: []byte{1}})
	})
	changed(t, false, "a function twice", func(ir *impl.Ir) { ir.Funs = append(ir.Funs, ir.Funs[0]) })
	changed(t, false, "main twice", func(ir *impl.Ir) { ir.Funs = append(ir.Funs, ir.Funs[1]) })
	changed(t, false, "data like a function", func(ir *impl.Ir) { ir.Data = append(ir.Data, impl.IrData{Name: "f", Bytes: []byte{1}}) })
	changed(t, false, "data like main", func(ir *impl.Ir) { ir.Data = append(ir.Data, impl.IrData{Name: "main", Bytes: []byte{1}}) })
}

func TestValidData(t *testing.T) {
	for _, size := range []int{0, 1, 3, 4, 5, 59999, 60000, 60001, 65536, 70000} {
		changed(t, size > 0 && size <= impl.MaxObject, fmt.Sprint(size, " bytes"), func(ir *impl.Ir) {
			ir.Data = append(ir.Data, impl.IrData{Name: "e", Bytes: make([]byte, size)})
			ir.Data[0], ir.Funs[1].Code = impl.IrData{Name: "d", Bytes: []byte{1}}, stepsFrom("ret -1")
		})
	}
	// All together, each made a multiple of 4: d takes 8 of 65536.
	for _, c := range []struct {
		want  bool
		sizes []int
	}{
		{true, []int{60000, 5528}}, {true, []int{60000, 5525}}, {false, []int{60000, 5529}}, {false, []int{60000, 5528, 1}}, {true, []int{60000, 5524, 1}}, {true, []int{60000, 5524, 4}}, {false, []int{60000, 5524, 5}}, {false, []int{60000, 5524, 1, 1}}, {true, []int{59997, 5525}}, {false, []int{59997, 5525, 1}}, {true, []int{59996, 5525, 1}}, {false, []int{60000, 60000}}, {false, []int{32764, 32764, 1}}, {true, []int{32764, 32764}}, {true, []int{32761, 32761}}, {false, []int{32765, 32761}}, {true, []int{1, 59999, 5524}}, {false, []int{1, 60000, 5525}},
	} {
		changed(t, c.want, fmt.Sprint(c.sizes), func(ir *impl.Ir) {
			for i, size := range c.sizes {
				ir.Data = append(ir.Data, impl.IrData{Name: fmt.Sprint("$", i), Bytes: make([]byte, size)})
			}
		})
	}
	// 500 data of a byte take 2000 bytes, of 128 just below 65536, of 132 above.
	for size, want := range map[int]bool{1: true, 128: true, 129: false, 131: false, 132: false} {
		ir := impl.Ir{Funs: []impl.IrFun{{Name: "main", Code: stepsFrom("ret -1")}}}
		for i := range impl.MaxGlobals {
			ir.Data = append(ir.Data, impl.IrData{Name: fmt.Sprint("$", i), Bytes: make([]byte, size)})
		}
		isValid(t, want, fmt.Sprint("500 of ", size), ir)
	}
}

func TestValidRefs(t *testing.T) {
	refTo := func(at int, sym string, n int) impl.IrRef { return impl.IrRef{At: at, Sym: sym, N: n} }
	ref := func(at int) impl.IrRef { return refTo(at, "f", 0) }
	for _, c := range []struct {
		want bool
		size int
		refs []impl.IrRef
	}{
		{true, 4, []impl.IrRef{ref(0)}}, {true, 8, []impl.IrRef{ref(0), ref(4)}}, {true, 8, []impl.IrRef{ref(4)}}, {true, 12, []impl.IrRef{ref(0), ref(8)}}, {true, 60000, []impl.IrRef{ref(0), ref(59996)}}, {true, 7, []impl.IrRef{ref(0)}}, {true, 9, []impl.IrRef{ref(4)}},
		{false, 3, []impl.IrRef{ref(0)}}, {false, 1, []impl.IrRef{ref(0)}}, {false, 4, []impl.IrRef{ref(4)}}, {false, 7, []impl.IrRef{ref(4)}}, {false, 8, []impl.IrRef{ref(8)}}, {false, 8, []impl.IrRef{ref(0), ref(8)}}, {false, 59999, []impl.IrRef{ref(59996)}}, {false, 8, []impl.IrRef{ref(-4)}}, {false, 8, []impl.IrRef{ref(-4), ref(4)}}, {false, 8, []impl.IrRef{ref(1 << 62)}}, {false, 8, []impl.IrRef{ref(-1 << 63)}}, {false, 8, []impl.IrRef{ref(1<<63 - 4)}},
		{false, 8, []impl.IrRef{ref(1)}}, {false, 8, []impl.IrRef{ref(2)}}, {false, 8, []impl.IrRef{ref(3)}}, {false, 12, []impl.IrRef{ref(0), ref(6)}}, {false, 12, []impl.IrRef{ref(0), ref(2)}},
		{false, 8, []impl.IrRef{ref(4), ref(0)}}, {false, 8, []impl.IrRef{ref(0), ref(0)}}, {false, 12, []impl.IrRef{ref(0), ref(8), ref(4)}}, {false, 12, []impl.IrRef{ref(0), ref(4), ref(4)}},
		{true, 4, []impl.IrRef{refTo(0, "d", 0)}}, {true, 4, []impl.IrRef{refTo(0, "main", 0)}}, {true, 4, []impl.IrRef{refTo(0, "d", 60000)}}, {true, 4, []impl.IrRef{refTo(0, "f", 60000)}}, {true, 4, []impl.IrRef{refTo(0, "$5", 1)}},
		{false, 4, []impl.IrRef{refTo(0, "d", -1)}}, {false, 4, []impl.IrRef{refTo(0, "d", 60001)}}, {false, 4, []impl.IrRef{refTo(0, "f", -1)}}, {false, 4, []impl.IrRef{refTo(0, "x", 0)}}, {false, 4, []impl.IrRef{refTo(0, "", 0)}}, {false, 4, []impl.IrRef{refTo(0, "putchar", 0)}}, {false, 4, []impl.IrRef{refTo(0, "exit", 0)}}, {false, 4, []impl.IrRef{refTo(0, "getchar", 0)}}, {false, 4, []impl.IrRef{refTo(0, "$4", 0)}}, {false, 8, []impl.IrRef{ref(0), refTo(4, "x", 0)}},
	} {
		changed(t, c.want, fmt.Sprint(c.size, c.refs), func(ir *impl.Ir) {
			ir.Data[0] = impl.IrData{Name: "d", Bytes: make([]byte, c.size), Refs: c.refs}
			// One that stands behind can be referred to.
			ir.Data = append(ir.Data, impl.IrData{Name: "$5", Bytes: []byte{1}})
		})
	}
	// Bytes that are not 0: those of a Ref must be, all others need not.
	for at := range 12 {
		changed(t, at < 4 || at > 7, fmt.Sprint("byte ", at), func(ir *impl.Ir) {
			ir.Data[0] = impl.IrData{Name: "d", Bytes: make([]byte, 12), Refs: []impl.IrRef{ref(4)}}
			ir.Data[0].Bytes[at] = 255
		})
	}
}
