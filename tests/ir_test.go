package tests

import (
	"bytes"
	"fmt"
	"slices"
	"strconv"
	"strings"
	"testing"

	"loop.example/s01681/impl"
)

// Codes as texts, a step a line or with a ; between: the word of the step and its parts, the register that is set in
// front. `num 2 7`, `move 1 0`, `add 3 1 2` (the names of chapter 2), `narrow i8 2 1`, `load w 2 1`, `store u8 1 2`, `addr 0
// g 4`, `slot 1 0`, `call 2 f 0 1`, `callr -1 3 0`, `label 4`, `jump 4`, `if geu 0 1 4`, `ret -1`, `copy 0 1 8`, `zero 0 8`.

var stepWords = []string{"", "num", "move", "alu", "narrow", "load", "store", "addr", "slot", "call", "callr", "label", "jump", "if", "ret", "copy", "zero"}

var kindTexts = []string{"", "i8", "u8", "i16", "u16", "w"}

// stepText writes any step, with its numbers where it has no words for them; what an Op has no use for stands behind.
func stepText(in impl.IrIns) string {
	rest := in
	part := func(of *int) string {
		n := *of
		*of = 0
		return fmt.Sprint(" ", n)
	}
	word := func() string {
		s := rest.Sym
		rest.Sym = ""
		return " " + s
	}
	kind := func() string {
		if rest.N < 1 || rest.N > 5 {
			return " kind" + part(&rest.N)
		}
		s := kindTexts[rest.N]
		rest.N = 0
		return " " + s
	}
	args := func() string {
		s := ""
		for _, reg := range rest.Args {
			s += fmt.Sprint(" ", reg)
		}
		rest.Args = nil
		return s
	}
	if in.Op < 1 || in.Op > 16 {
		return fmt.Sprintf("%v", in)
	}
	rest.Op = 0
	text := stepWords[in.Op]
	switch in.Op {
	case impl.IrNum, impl.IrSlot:
		text += part(&rest.D) + part(&rest.N)
	case impl.IrMove:
		text += part(&rest.D) + part(&rest.A)
	case impl.IrAlu:
		if name := impl.OpName(in.N); in.N <= 18 && name != "" {
			text, rest.N = name, 0
		}
		text += part(&rest.D) + part(&rest.A) + part(&rest.B)
	case impl.IrNarrow, impl.IrLoad:
		text += kind() + part(&rest.D) + part(&rest.A)
	case impl.IrStore:
		text += kind() + part(&rest.A) + part(&rest.B)
	case impl.IrAddr:
		text += part(&rest.D) + word()
		if rest.N != 0 {
			text += part(&rest.N)
		}
	case impl.IrCall:
		text += part(&rest.D) + word() + args()
	case impl.IrCallR:
		text += part(&rest.D) + part(&rest.A) + args()
	case impl.IrLabel, impl.IrJump:
		text += part(&rest.N)
	case impl.IrIf:
		text += word() + part(&rest.A) + part(&rest.B) + part(&rest.N)
	case impl.IrRet:
		text += part(&rest.A)
	case impl.IrCopy:
		text += part(&rest.A) + part(&rest.B) + part(&rest.N)
	case impl.IrZero:
		text += part(&rest.A) + part(&rest.N)
	}
	if !sameStep(rest, impl.IrIns{}) {
		text += fmt.Sprintf(" and %v", rest)
	}
	return text
}

// aStep reads such a text.
func aStep(text string) impl.IrIns {
	words := strings.Fields(text)
	in := impl.IrIns{Op: slices.Index(stepWords, words[0])}
	if n := impl.OpNumber(words[0]); n >= 1 && n <= 18 {
		in.Op, in.N = impl.IrAlu, n
	}
	at := 0
	next := func() int {
		at++
		n, err := strconv.Atoi(words[at])
		if err != nil {
			panic(text)
		}
		return n
	}
	word := func() string {
		at++
		return words[at]
	}
	kind := func() int { return slices.Index(kindTexts, word()) }
	switch in.Op {
	case impl.IrNum, impl.IrSlot:
		in.D, in.N = next(), next()
	case impl.IrMove:
		in.D, in.A = next(), next()
	case impl.IrAlu:
		in.D, in.A, in.B = next(), next(), next()
	case impl.IrNarrow, impl.IrLoad:
		in.N, in.D, in.A = kind(), next(), next()
	case impl.IrStore:
		in.N, in.A, in.B = kind(), next(), next()
	case impl.IrAddr:
		in.D, in.Sym = next(), word()
		if at+1 < len(words) {
			in.N = next()
		}
	case impl.IrCall, impl.IrCallR:
		in.D = next()
		if in.Op == impl.IrCall {
			in.Sym = word()
		} else {
			in.A = next()
		}
		for at+1 < len(words) {
			in.Args = append(in.Args, next())
		}
	case impl.IrLabel, impl.IrJump:
		in.N = next()
	case impl.IrIf:
		in.Sym, in.A, in.B, in.N = word(), next(), next(), next()
	case impl.IrRet:
		in.A = next()
	case impl.IrCopy:
		in.A, in.B, in.N = next(), next(), next()
	case impl.IrZero:
		in.A, in.N = next(), next()
	default:
		panic("no step: " + text)
	}
	if at != len(words)-1 {
		panic("too many parts: " + text)
	}
	return in
}

func stepsFrom(text string) []impl.IrIns {
	steps := []impl.IrIns{}
	for _, one := range strings.FieldsFunc(text, func(r rune) bool { return r == ';' || r == '\n' }) {
		if strings.TrimSpace(one) != "" {
			steps = append(steps, aStep(one))
		}
	}
	return steps
}

func stepsText(steps []impl.IrIns) string {
	texts := []string{}
	for _, in := range steps {
		texts = append(texts, stepText(in))
	}
	return strings.Join(texts, "; ")
}

// funText writes a function: its name, Params, Regs and Slots, and its steps.
func funText(f impl.IrFun) string {
	return fmt.Sprintf("%s %d %d %v: %s", f.Name, f.Params, f.Regs, f.Slots, stepsText(f.Code))
}

func dataText(d impl.IrData) string {
	return fmt.Sprintf("%s %q %v", d.Name, d.Bytes, d.Refs)
}

func irText(ir impl.Ir) string {
	texts := []string{}
	for _, d := range ir.Data {
		texts = append(texts, dataText(d))
	}
	for _, f := range ir.Funs {
		texts = append(texts, funText(f))
	}
	return strings.Join(texts, "\n")
}

func sameStep(a, b impl.IrIns) bool {
	return a.Op == b.Op && a.D == b.D && a.A == b.A && a.B == b.B && a.N == b.N && a.Sym == b.Sym && slices.Equal(a.Args, b.Args)
}

func sameFun(a, b impl.IrFun) bool {
	return a.Name == b.Name && a.Params == b.Params && a.Regs == b.Regs && slices.Equal(a.Slots, b.Slots) && slices.EqualFunc(a.Code, b.Code, sameStep)
}

func sameIrData(a, b impl.IrData) bool {
	return a.Name == b.Name && bytes.Equal(a.Bytes, b.Bytes) && slices.Equal(a.Refs, b.Refs)
}

func sameIr(a, b impl.Ir) bool {
	return slices.EqualFunc(a.Data, b.Data, sameIrData) && slices.EqualFunc(a.Funs, b.Funs, sameFun)
}

// roomyIr is a copy with room behind each list.
func roomyIr(ir impl.Ir) impl.Ir {
	ir.Data, ir.Funs = roomy(ir.Data), roomy(ir.Funs)
	for i, d := range ir.Data {
		ir.Data[i].Bytes, ir.Data[i].Refs = roomy(d.Bytes), roomy(d.Refs)
	}
	for i, f := range ir.Funs {
		ir.Funs[i].Slots, ir.Funs[i].Code = roomy(f.Slots), roomy(f.Code)
		for k, in := range f.Code {
			ir.Funs[i].Code[k].Args = roomy(in.Args)
		}
	}
	return ir
}

// withIrRoom has the room behind each list as a part of it.
func withIrRoom(ir impl.Ir) impl.Ir {
	all := impl.Ir{Data: slices.Clone(ir.Data[:cap(ir.Data)]), Funs: slices.Clone(ir.Funs[:cap(ir.Funs)])}
	for i, d := range all.Data {
		all.Data[i].Bytes, all.Data[i].Refs = d.Bytes[:cap(d.Bytes)], d.Refs[:cap(d.Refs)]
	}
	for i, f := range all.Funs {
		code := slices.Clone(f.Code[:cap(f.Code)])
		for k, in := range code {
			code[k].Args = in.Args[:cap(in.Args)]
		}
		all.Funs[i].Slots, all.Funs[i].Code = f.Slots[:cap(f.Slots)], code
	}
	return all
}

// unwrittenIr hands a code in with room behind all of its lists, and asks that it is as it was behind the call.
func unwrittenIr[A any](t *testing.T, ir impl.Ir, call func(given impl.Ir) A) A {
	t.Helper()
	given := roomyIr(ir)
	answer := call(given)
	if !sameIr(given, ir) || !sameIr(withIrRoom(given), withIrRoom(roomyIr(ir))) {
		t.Errorf("written into:\n%.1000s", irText(ir))
	}
	return answer
}

// irLists gives all lists of numbers and of bytes in a code.
func irLists(ir impl.Ir) (ints [][]int, texts [][]byte) {
	for _, d := range ir.Data {
		texts = append(texts, d.Bytes)
	}
	for _, f := range ir.Funs {
		ints = append(ints, f.Slots)
		for _, in := range f.Code {
			ints = append(ints, in.Args)
		}
	}
	return ints, texts
}

// ownMemory sees that no two lists of an answer share memory, nor any with another answer.
func ownMemory(t *testing.T, name string, ir, other impl.Ir) {
	t.Helper()
	ints, texts := irLists(ir)
	otherInts, otherTexts := irLists(other)
	seen := map[*int]int{}
	for i, list := range append(ints, otherInts...) {
		for k := range list[:cap(list)] {
			at := &list[:cap(list)][k]
			if first, ok := seen[at]; ok && first != i {
				t.Errorf("%.300s: two lists of numbers share memory", name)
				return
			}
			seen[at] = i
		}
	}
	all := append(texts, otherTexts...)
	for i := range all {
		for k := range i {
			if cap(all[i]) > 0 && cap(all[k]) > 0 && &all[i][:1][0] == &all[k][:1][0] {
				t.Errorf("%.300s: two lists of bytes share memory", name)
			}
		}
	}
	if touch(ir.Data, other.Data) || touch(ir.Funs, other.Funs) {
		t.Errorf("%.300s: two answers share memory", name)
	}
	for i := range ir.Data {
		for k := range other.Data {
			if touch(ir.Data[i].Refs, other.Data[k].Refs) || i != k && touch(ir.Data[i].Refs, ir.Data[k].Refs) {
				t.Errorf("%.300s: two lists of Refs share memory", name)
			}
		}
	}
	for i := range ir.Funs {
		if len(ir.Funs[i].Code) > 0 && len(other.Funs[i].Code) > 0 && &ir.Funs[i].Code[0] == &other.Funs[i].Code[0] {
			t.Errorf("%.300s: two answers share steps", name)
		}
	}
}

// mainOf makes a code whose main has these steps, with four registers and slots of 5 and 8 bytes; beside it there are
// data of 5 bytes, the first four being its own address and 4, the last 7, and a function that doubles its param.
func mainOf(steps string) impl.Ir {
	return impl.Ir{
		Data: []impl.IrData{{Name: "d", Bytes: []byte{0, 0, 0, 0, 7}, Refs: []impl.IrRef{{Sym: "d", N: 4}}}},
		Funs: []impl.IrFun{{Name: "f", Params: 1, Regs: 2, Code: stepsFrom("add 1 0 0; ret 1")}, {Name: "main", Regs: 4, Slots: []int{5, 8}, Code: stepsFrom(steps)}},
	}
}

// The texts of steps are read as they were written.
func TestStepTexts(t *testing.T) {
	for _, text := range strings.Split("num 2 7; move 1 0; sub 3 1 2; remu 3 1 2; narrow i8 2 1; load w 2 1; store u16 1 2; addr 0 g 4; addr 0 g; slot 1 0; call 2 f 0 1; call -1 f; callr -1 3 0; label 4; jump 4; if geu 0 1 4; ret -1; copy 0 1 8; zero 0 8", "; ") {
		if got := stepText(aStep(text)); got != text {
			t.Errorf("%q is %q", text, got)
		}
	}
}
