package tests

import (
	"fmt"
	"strings"

	"loop.example/s01681/impl"
)

// A second reading of chapter 12 as texts of assembly: the document's table, with the lines of each step between ;.
//
// A and B alone are a register that is read, into t0 and into t1; D alone is the sw of t0, where D has a spill; args, result,
// given and saved are what the function of that name below says. In a line {a}, {b} and {d} are the machine registers of A, B
// and D, {n} is N, {L} the label N, {K} the label of the step itself, {sym} the label of Sym, {o} the offset of slot N.
var emitRowsBy = map[string]string{
	"num":        "li {d}, {n}; D",
	"move":       "A; mv {d}, {a}; D",
	"alu":        "A; B; {op} {d}, {a}, {b}; D",
	"narrow i8":  "A; slli {d}, {a}, 24; srai {d}, {d}, 24; D",
	"narrow u8":  "A; andi {d}, {a}, 255; D",
	"narrow i16": "A; slli {d}, {a}, 16; srai {d}, {d}, 16; D",
	"narrow u16": "A; slli {d}, {a}, 16; srli {d}, {d}, 16; D",
	"load i8":    "A; lb {d}, 0({a}); D",
	"load u8":    "A; lbu {d}, 0({a}); D",
	"load i16":   "A; lh {d}, 0({a}); D",
	"load u16":   "A; lhu {d}, 0({a}); D",
	"load w":     "A; lw {d}, 0({a}); D",
	"store i8":   "A; B; sb {b}, 0({a})",
	"store u8":   "A; B; sb {b}, 0({a})",
	"store i16":  "A; B; sh {b}, 0({a})",
	"store u16":  "A; B; sh {b}, 0({a})",
	"store w":    "A; B; sw {b}, 0({a})",
	"addr":       "la {d}, {sym}; D",
	"slot near":  "addi {d}, sp, {o}; D",
	"slot far":   "li {d}, {o}; add {d}, {d}, sp; D",
	"call":       "args; call {sym}; result",
	"callr":      "A; args; jalr ra, 0({a}); result",
	"label":      "{L}:",
	"jump":       "j {L}",
	"if eq":      "A; B; bne {a}, {b}, {K}; j {L}; {K}:",
	"if ne":      "A; B; beq {a}, {b}, {K}; j {L}; {K}:",
	"if lt":      "A; B; bge {a}, {b}, {K}; j {L}; {K}:",
	"if ge":      "A; B; blt {a}, {b}, {K}; j {L}; {K}:",
	"if ltu":     "A; B; bgeu {a}, {b}, {K}; j {L}; {K}:",
	"if geu":     "A; B; bltu {a}, {b}, {K}; j {L}; {K}:",
	"ret":        "given; saved; ret",
	"copy":       "A; B; mv t0, {a}; mv t1, {b}; li a0, {n}; add a0, a0, t0; {K}:; lbu a1, 0(t1); sb a1, 0(t0); addi t0, t0, 1; addi t1, t1, 1; bltu t0, a0, {K}",
	"zero":       "A; mv t0, {a}; li a0, {n}; add a0, a0, t0; {K}:; sb zero, 0(t0); addi t0, t0, 1; bltu t0, a0, {K}",
}

const startBy = ".text; _start:; call C.main; li a7, 3; ecall; .over:; li a7, 4; ecall; C.putchar:; li a7, 1; ecall; ret; C.getchar:; li a7, 2; ecall; ret; C.exit:; li a7, 3; ecall; ret"

// frameBy is a list of what lies in a frame: its first byte, and what it is.
type frameBy struct {
	at     map[string]int
	keeps  []string
	size   int
	places []impl.Place
}

func frameOfBy(f impl.IrFun) frameBy {
	frame := frameBy{at: map[string]int{}, places: impl.Allot(f)}
	lay := func(what string, size int) {
		frame.at[what] = frame.size
		frame.size += size
	}
	spills, gave := 0, map[int]bool{}
	for _, p := range frame.places {
		spills = max(spills, p.Spill+1)
		gave[p.Reg] = true
	}
	for spill := range spills {
		lay(fmt.Sprint("spill ", spill), 4)
	}
	for slot, size := range f.Slots {
		for size%4 != 0 {
			size++
		}
		lay(fmt.Sprint("slot ", slot), size)
	}
	keep := func(reg string) {
		frame.keeps = append(frame.keeps, reg)
		lay(reg, 4)
	}
	keep("ra")
	for _, reg := range []int{8, 9, 18, 19, 20, 21, 22, 23, 24, 25, 26, 27} {
		if gave[reg] {
			keep(regWords[reg])
		}
	}
	for frame.size%16 != 0 {
		frame.size++
	}
	return frame
}

func framesBy(ir impl.Ir) []int {
	if irOkBy(ir) != "" {
		return nil
	}
	sizes := []int{}
	for _, f := range ir.Funs {
		sizes = append(sizes, frameOfBy(f).size)
	}
	return sizes
}

// writerBy writes the texts of one function.
type writerBy struct {
	frameBy
	f     int
	fun   impl.IrFun
	texts []string
}

func (w *writerBy) write(text string) {
	if regs, ok := strings.CutPrefix(text, "mv "); ok {
		if to, from, _ := strings.Cut(regs, ", "); to == from {
			return
		}
	}
	w.texts = append(w.texts, text)
}

func (w *writerBy) writef(format string, parts ...any) {
	w.write(fmt.Sprintf(format, parts...))
}

func (w *writerBy) reach(word, reg, what string) {
	offset, ok := w.at[what]
	switch {
	case !ok:
		panic("no " + what + " in the frame")
	case offset <= 2047:
		w.writef("%s %s, %d(sp)", word, reg, offset)
	default:
		w.writef("li t2, %d", offset)
		w.write("add t2, t2, sp")
		w.writef("%s %s, 0(t2)", word, reg)
	}
}

// home tells the machine register of a register, or its spill.
func (w *writerBy) home(reg int) (machine, spill string) {
	p := w.places[reg]
	switch {
	case p.Reg > 0:
		return regWords[p.Reg], ""
	case p.Spill >= 0:
		return "", fmt.Sprint("spill ", p.Spill)
	}
	panic(fmt.Sprintf("register %d of %s is nowhere", reg, w.fun.Name))
}

// read gives where a register is found.
func (w *writerBy) read(reg int, into string) string {
	machine, spill := w.home(reg)
	if machine != "" {
		return machine
	}
	w.reach("lw", into, spill)
	return into
}

// into gives what a register is put into when it is set, kept writes the sw behind that.
func (w *writerBy) into(reg int) string {
	if machine, _ := w.home(reg); machine != "" {
		return machine
	}
	return "t0"
}

func (w *writerBy) kept(reg int) {
	if _, spill := w.home(reg); spill != "" {
		w.reach("sw", "t0", spill)
	}
}

// pass puts a register into a0, a1, ..
func (w *writerBy) pass(reg, number int) {
	to := fmt.Sprint("a", number)
	if machine, spill := w.home(reg); spill != "" {
		w.reach("lw", to, spill)
	} else {
		w.writef("mv %s, %s", to, machine)
	}
}

func (w *writerBy) begin(stack int) {
	w.writef("C.%s:", w.fun.Name)
	w.writef("li t0, %d", 2097152-stack+w.size)
	w.writef("bgeu sp, t0, .K%d_s", w.f)
	w.write("j .over")
	w.writef(".K%d_s:", w.f)
	if w.size <= 2047 {
		w.writef("addi sp, sp, -%d", w.size)
	} else {
		w.writef("li t0, %d", w.size)
		w.write("sub sp, sp, t0")
	}
	for _, reg := range w.keeps {
		w.reach("sw", reg, reg)
	}
	for param, span := range impl.Spans(w.fun)[:w.fun.Params] {
		if span.From != -1 {
			continue
		}
		if machine, spill := w.home(param); spill != "" {
			w.reach("sw", fmt.Sprint("a", param), spill)
		} else {
			w.writef("mv %s, a%d", machine, param)
		}
	}
}

// rowBy tells which row of the table is that of a step.
func (w *writerBy) rowBy(in impl.IrIns) string {
	word := stepWords[in.Op]
	switch in.Op {
	case 4, 5, 6:
		word += " " + kindTexts[in.N]
	case 13:
		word += " " + in.Sym
	case 8:
		word += map[bool]string{true: " near", false: " far"}[w.at[fmt.Sprint("slot ", in.N)] <= 2047]
	}
	row, ok := emitRowsBy[word]
	if !ok {
		panic("no row for " + word)
	}
	return row
}

func (w *writerBy) step(i int, in impl.IrIns) {
	sym := "C." + in.Sym
	if in.Op == 7 && in.N != 0 {
		sym += fmt.Sprint("+", in.N)
	}
	a, b, d, n := "?", "?", "?", fmt.Sprint(in.N)
	label, own := fmt.Sprint(".L", w.f, "_", n), fmt.Sprint(".K", w.f, "_", i)
	offset := fmt.Sprint(w.at["slot "+n])
	if sets := setsBy(in); len(sets) > 0 {
		d = w.into(sets[0])
	}
	op := ""
	if in.Op == 3 {
		op = opWords[in.N-1]
	}
	for _, part := range strings.Split(w.rowBy(in), "; ") {
		switch part {
		case "A":
			a = w.read(in.A, "t0")
		case "B":
			b = w.read(in.B, "t1")
		case "D":
			w.kept(in.D)
		case "args":
			for number, reg := range in.Args {
				w.pass(reg, number)
			}
		case "result":
			if in.D != -1 {
				w.writef("mv %s, a0", d)
				w.kept(in.D)
			}
		case "given":
			if in.A == -1 {
				w.write("li a0, 0")
			} else {
				w.pass(in.A, 0)
			}
		case "saved":
			w.end()
		default:
			for _, with := range [][2]string{
				{"{a}", a}, {"{b}", b}, {"{d}", d}, {"{n}", n}, {"{sym}", sym}, {"{op}", op}, {"{o}", offset}, {"{L}", label}, {"{K}", own},
			} {
				part = strings.ReplaceAll(part, with[0], with[1])
			}
			w.write(part)
		}
	}
}

func (w *writerBy) end() {
	for _, reg := range w.keeps {
		w.reach("lw", reg, reg)
	}
	if w.size <= 2047 {
		w.writef("addi sp, sp, %d", w.size)
	} else {
		w.writef("li t0, %d", w.size)
		w.write("add sp, sp, t0")
	}
}

func dataTextsBy(d impl.IrData) []string {
	texts := []string{".align 4", "C." + d.Name + ":"}
	words := map[int]string{}
	for _, ref := range d.Refs {
		words[ref.At] = ".word C." + ref.Sym
		if ref.N != 0 {
			words[ref.At] += fmt.Sprint("+", ref.N)
		}
	}
	for at := 0; at < len(d.Bytes); {
		if words[at] != "" {
			texts = append(texts, words[at])
			at += 4
			continue
		}
		if d.Bytes[at] != 0 {
			texts = append(texts, fmt.Sprint(".byte ", d.Bytes[at]))
			at++
			continue
		}
		zeros := 0
		for at < len(d.Bytes) && d.Bytes[at] == 0 && words[at] == "" {
			zeros++
			at++
		}
		texts = append(texts, fmt.Sprint(".zero ", zeros))
	}
	return texts
}

// emitBy gives the text of each line, and why there is none.
func emitBy(ir impl.Ir, stack int) ([]string, string) {
	if wrong := irOkBy(ir); wrong != "" {
		return nil, wrong
	}
	if stack < 0 || stack > 65536 || stack%16 != 0 {
		return nil, "the stack"
	}
	texts := strings.Split(startBy, "; ")
	for f, fun := range ir.Funs {
		w := &writerBy{frameBy: frameOfBy(fun), f: f, fun: fun}
		w.begin(stack)
		for i, in := range fun.Code {
			w.step(i, in)
		}
		texts = append(texts, w.texts...)
	}
	texts = append(texts, ".data")
	for _, d := range ir.Data {
		texts = append(texts, dataTextsBy(d)...)
	}
	if len(texts) > 20000 {
		return nil, "too many lines"
	}
	return texts, ""
}
