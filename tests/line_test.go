package tests

import (
	"math"
	"slices"
	"strings"
	"testing"

	"loop.example/s01681/impl"
)

// lineForm is a line that is well formed, and which of its fields may be other than 0 or empty.
type lineForm struct {
	line         impl.Line
	rd, rs1, rs2 bool
	sym          bool
	low, high    int
}

const (
	farBack  = -2147483648
	farOn    = 2147483647
	lastWord = 4294967295
)

// plainForms has each Kind once, but for instructions; LineWord is there with a Sym and without.
func plainForms() []lineForm {
	rd := impl.Inst{Rd: 5}
	return []lineForm{
		{line: impl.Line{Kind: impl.LineLabel, Sym: "f"}, sym: true},
		{line: impl.Line{Kind: impl.LineLi, In: rd}, rd: true, high: lastWord},
		{line: impl.Line{Kind: impl.LineLa, In: rd, Sym: "f"}, rd: true, sym: true, low: farBack, high: farOn},
		{line: impl.Line{Kind: impl.LineMv, In: impl.Inst{Rd: 5, Rs1: 6}}, rd: true, rs1: true},
		{line: impl.Line{Kind: impl.LineJ, Sym: "f"}, sym: true},
		{line: impl.Line{Kind: impl.LineCall, Sym: "f"}, sym: true},
		{line: impl.Line{Kind: impl.LineRet}},
		{line: impl.Line{Kind: impl.LineText}},
		{line: impl.Line{Kind: impl.LineData}},
		{line: impl.Line{Kind: impl.LineByte}, high: 255},
		{line: impl.Line{Kind: impl.LineHalf}, high: 65535},
		{line: impl.Line{Kind: impl.LineWord}, high: lastWord},
		{line: impl.Line{Kind: impl.LineWord, Sym: "f"}, sym: true, low: farBack, high: farOn},
		{line: impl.Line{Kind: impl.LineZero}, high: impl.MaxData},
		{line: impl.Line{Kind: impl.LineAlign, N: 1}, low: 1, high: 4},
	}
}

// instForms has each instruction once, in the Kind that it belongs to.
func instForms() []lineForm {
	var out []lineForm
	for op := 1; op <= impl.OpEbreak; op++ {
		form := formOf(op)
		f := lineForm{line: impl.Line{Kind: impl.LineInst, In: impl.Inst{Op: op}}, rd: usesRd(form), rs1: usesRs1(form), rs2: usesRs2(form)}
		if form == 'B' || form == 'J' {
			f.line.Kind, f.line.Sym, f.sym = impl.LineJump, "f", true
		}
		out = append(out, f)
	}
	return out
}

func lineForms() []lineForm { return append(plainForms(), instForms()...) }

func checkLine(t *testing.T, l impl.Line, want bool) {
	t.Helper()
	if impl.LineOk(l) != want {
		t.Errorf("LineOk of %+v is not %v", l, want)
	}
	text, ok := impl.PrintAsm([]impl.Line{l})
	if ok != want || ok != (len(text) > 0) {
		t.Errorf("PrintAsm of %+v: %q, %v", l, text, ok)
	}
	if _, code, at := impl.Assemble([]impl.Line{{Kind: impl.LineText}, l}, 0); (code == 1) == want || code == 1 && at != 1 {
		t.Errorf("Assemble of %+v: %d, %d", l, code, at)
	}
}

// checkReg tries a register's field at its edges, set by put.
func checkReg(t *testing.T, l impl.Line, used bool, put func(l *impl.Line, r int)) {
	t.Helper()
	for _, r := range []int{math.MinInt, -1, 0, 1, 31, 32, 33, math.MaxInt} {
		changed := l
		put(&changed, r)
		checkLine(t, changed, r == 0 || used && r > 0 && r < 32)
	}
}

func TestRegistersOfLines(t *testing.T) {
	for _, f := range lineForms() {
		checkReg(t, f.line, f.rd, func(l *impl.Line, r int) { l.In.Rd = r })
		checkReg(t, f.line, f.rs1, func(l *impl.Line, r int) { l.In.Rs1 = r })
		checkReg(t, f.line, f.rs2, func(l *impl.Line, r int) { l.In.Rs2 = r })
	}
}

func TestNOfLines(t *testing.T) {
	for _, f := range lineForms() {
		edges := []int{math.MinInt, farBack - 1, farBack, -1, 0, 1, 2, 3, 4, 5, 8, farOn, farOn + 1, lastWord, lastWord + 1, math.MaxInt}
		for _, n := range append(edges, f.low-1, f.low, f.high, f.high+1) {
			l := f.line
			l.N = n
			fits := n >= f.low && n <= f.high && (l.Kind != impl.LineAlign || n != 3)
			checkLine(t, l, fits)
		}
	}
}

// labelNames has names that may be, and then some that may not.
func labelNames() ([]string, []string) {
	const letters = "abcdefghijklmnopqrstuvwxyzABCDEFGHIJKLMNOPQRSTUVWXYZ_.$"
	good := []string{letters[:48], letters[7:], strings.Repeat("$", impl.MaxLabel), "_start", "a0", "li", ".text", "x0123456789"}
	for i := range letters {
		good = append(good, letters[i:i+1], "q"+letters[i:i+1])
	}
	bad := []string{strings.Repeat("a", impl.MaxLabel+1), strings.Repeat("a", 300), "0", "9a", "5_", "a b", " a", "a ", "a:", "a\n", "a#", "a,", "\u00e9", "a\u00e9"}
	for b := range 256 {
		if !strings.Contains(letters+"0123456789", string([]byte{byte(b)})) {
			bad = append(bad, string([]byte{byte(b)}), string([]byte{'a', byte(b)}), string([]byte{'a', byte(b), 'z'}))
		}
	}
	return good, bad
}

func TestSymOfLines(t *testing.T) {
	good, bad := labelNames()
	for _, f := range lineForms() {
		l := f.line
		for _, name := range good {
			l.Sym = name
			checkLine(t, l, f.sym || l.Kind == impl.LineWord)
		}
		for _, name := range bad {
			l.Sym = name
			checkLine(t, l, false)
		}
		l.Sym = ""
		checkLine(t, l, !f.sym || l.Kind == impl.LineWord)
	}
}

func TestSymSaysWhatAWordMayBe(t *testing.T) {
	for _, n := range []int{-1, farOn + 1, lastWord} {
		checkLine(t, impl.Line{Kind: impl.LineWord, N: n}, n > 0)
		checkLine(t, impl.Line{Kind: impl.LineWord, Sym: "f", N: n}, n < 0)
	}
}

func TestImmOfLines(t *testing.T) {
	for _, f := range plainForms() {
		for _, imm := range []int{math.MinInt, -1, 1, 2, math.MaxInt} {
			l := f.line
			l.In.Imm = imm
			checkLine(t, l, false)
		}
	}
	for _, f := range instForms() {
		l := f.line
		form := formOf(l.In.Op)
		for _, imm := range immEdges(form) {
			l.In.Imm = imm
			checkLine(t, l, imm == 0 || l.Kind == impl.LineInst)
		}
		for _, imm := range badImms(form) {
			l.In.Imm = imm
			checkLine(t, l, false)
		}
	}
}

func TestOpOfLines(t *testing.T) {
	for _, f := range plainForms() {
		for _, op := range []int{math.MinInt, -1, 1, impl.OpAddi, impl.OpJal, impl.OpEcall, impl.OpEbreak + 1, math.MaxInt} {
			l := f.line
			l.In.Op = op
			checkLine(t, l, false)
		}
	}
	for _, op := range []int{math.MinInt, -1, 0, impl.OpEbreak + 1, math.MaxInt} {
		checkLine(t, impl.Line{Kind: impl.LineInst, In: impl.Inst{Op: op}}, false)
		checkLine(t, impl.Line{Kind: impl.LineJump, In: impl.Inst{Op: op}, Sym: "f"}, false)
	}
}

func TestInstructionsInTheOtherKind(t *testing.T) {
	for _, f := range instForms() {
		l := f.line
		l.Kind = impl.LineInst + impl.LineJump - l.Kind
		for _, sym := range []string{"", "f"} {
			l.Sym = sym
			checkLine(t, l, false)
		}
	}
}

func TestKindsThatAreNone(t *testing.T) {
	for _, f := range lineForms() {
		for _, kind := range []int{math.MinInt, -1, 0, 17, 18, math.MaxInt} {
			l := f.line
			l.Kind = kind
			checkLine(t, l, false)
		}
	}
}

// regWords and opWords are the names one by one, since very many lines are written.
var regWords, opWords = strings.Fields(regNames), strings.Fields(opNames)

// textOf writes a line by the words of the document's tables, one form after the other.
func textOf(l impl.Line) string {
	r := func(i int) string { return regWords[i] }
	switch l.Kind {
	case impl.LineLabel:
		return l.Sym + ":\n"
	case impl.LineInst, impl.LineJump:
		return "  " + instText(l) + "\n"
	case impl.LineLi:
		return "  li " + r(l.In.Rd) + ", " + decimal(l.N) + "\n"
	case impl.LineLa:
		return "  la " + r(l.In.Rd) + ", " + l.Sym + distance(l.N) + "\n"
	case impl.LineMv:
		return "  mv " + r(l.In.Rd) + ", " + r(l.In.Rs1) + "\n"
	case impl.LineJ:
		return "  j " + l.Sym + "\n"
	case impl.LineCall:
		return "  call " + l.Sym + "\n"
	case impl.LineWord:
		if l.Sym != "" {
			return "  .word " + l.Sym + distance(l.N) + "\n"
		}
		return "  .word " + decimal(l.N) + "\n"
	}
	words := map[int]string{impl.LineByte: ".byte", impl.LineHalf: ".half", impl.LineZero: ".zero", impl.LineAlign: ".align"}
	if word := words[l.Kind]; word != "" {
		return "  " + word + " " + decimal(l.N) + "\n"
	}
	return map[int]string{impl.LineRet: "  ret\n", impl.LineText: "  .text\n", impl.LineData: "  .data\n"}[l.Kind]
}

func instText(l impl.Line) string {
	in := l.In
	name := opWords[in.Op-1]
	rd, rs1, rs2 := regWords[in.Rd], regWords[in.Rs1], regWords[in.Rs2]
	memory := decimal(in.Imm) + "(" + rs1 + ")"
	switch formOf(in.Op) {
	case 'R':
		return name + " " + rd + ", " + rs1 + ", " + rs2
	case 'I', 'H':
		if name[0] == 'l' || name == "jalr" {
			return name + " " + rd + ", " + memory
		}
		return name + " " + rd + ", " + rs1 + ", " + decimal(in.Imm)
	case 'S':
		return name + " " + rs2 + ", " + memory
	case 'B':
		return name + " " + rs1 + ", " + rs2 + ", " + l.Sym
	case 'U':
		return name + " " + rd + ", " + decimal(in.Imm)
	case 'J':
		return name + " " + rd + ", " + l.Sym
	}
	return name
}

// decimal writes a number digit by digit.
func decimal(n int) string {
	if n < 0 {
		return "-" + decimal(-n)
	}
	if n < 10 {
		return string(rune('0' + n))
	}
	return decimal(n/10) + decimal(n%10)
}

func distance(n int) string {
	if n > 0 {
		return "+" + decimal(n)
	}
	if n < 0 {
		return decimal(n)
	}
	return ""
}

// manyLines has lines of each Kind and each instruction at the edges of all their fields.
func manyLines() []impl.Line {
	var out []impl.Line
	for _, f := range plainForms() {
		for _, n := range []int{f.low, f.low + 1, f.low / 2, 0, 1, 9, 10, 99, 100, 2047, 2048, 4096, f.high / 3, f.high / 2, f.high - 1, f.high} {
			for _, rd := range regEdges(f.rd) {
				l := f.line
				l.N, l.In.Rd = n, rd
				out = append(out, l)
			}
		}
	}
	for op := 1; op <= impl.OpEbreak; op++ {
		for _, in := range wellFormed(op) {
			if form := formOf(op); form == 'B' || form == 'J' {
				in.Imm = 0
				out = append(out, impl.Line{Kind: impl.LineJump, In: in, Sym: "a.b$_9"})
			} else {
				out = append(out, impl.Line{Kind: impl.LineInst, In: in})
			}
		}
	}
	return slices.DeleteFunc(out, func(l impl.Line) bool { return !impl.LineOk(l) })
}

func TestTextOfEachLine(t *testing.T) {
	lines := manyLines()
	kinds := map[int]int{}
	for _, l := range lines {
		kinds[l.Kind]++
		text, ok := impl.PrintAsm([]impl.Line{l})
		if !ok || string(text) != textOf(l) {
			t.Errorf("%+v: %q, %v, not %q", l, text, ok, textOf(l))
		}
	}
	for kind := impl.LineLabel; kind <= impl.LineAlign; kind++ {
		if kinds[kind] == 0 {
			t.Errorf("no line of kind %d", kind)
		}
	}
}

func TestTextByHand(t *testing.T) {
	for _, c := range []struct {
		line impl.Line
		text string
	}{
		{impl.Line{Kind: impl.LineLabel, Sym: "$a.b_9"}, "$a.b_9:\n"},
		{impl.Line{Kind: impl.LineInst, In: impl.Inst{Op: impl.AluMulhsu, Rd: 1, Rs1: 2, Rs2: 3}}, "  mulhsu ra, sp, gp\n"},
		{impl.Line{Kind: impl.LineInst, In: impl.Inst{Op: impl.OpAddi, Rd: 10, Imm: -2048}}, "  addi a0, zero, -2048\n"},
		{impl.Line{Kind: impl.LineInst, In: impl.Inst{Op: impl.OpSrai, Rd: 10, Rs1: 11, Imm: 31}}, "  srai a0, a1, 31\n"},
		{impl.Line{Kind: impl.LineInst, In: impl.Inst{Op: impl.OpLhu, Rd: 10, Rs1: 8, Imm: -1}}, "  lhu a0, -1(s0)\n"},
		{impl.Line{Kind: impl.LineInst, In: impl.Inst{Op: impl.OpJalr, Rd: 1, Rs1: 5}}, "  jalr ra, 0(t0)\n"},
		{impl.Line{Kind: impl.LineInst, In: impl.Inst{Op: impl.OpSb, Rs1: 31, Rs2: 27, Imm: 2047}}, "  sb s11, 2047(t6)\n"},
		{impl.Line{Kind: impl.LineInst, In: impl.Inst{Op: impl.OpAuipc, Rd: 4, Imm: 1048575}}, "  auipc tp, 1048575\n"},
		{impl.Line{Kind: impl.LineInst, In: impl.Inst{Op: impl.OpEbreak}}, "  ebreak\n"},
		{impl.Line{Kind: impl.LineJump, In: impl.Inst{Op: impl.OpBltu, Rs1: 6, Rs2: 7}, Sym: ".L1"}, "  bltu t1, t2, .L1\n"},
		{impl.Line{Kind: impl.LineJump, In: impl.Inst{Op: impl.OpJal, Rd: 1}, Sym: "f"}, "  jal ra, f\n"},
		{impl.Line{Kind: impl.LineLi, In: impl.Inst{Rd: 10}, N: lastWord}, "  li a0, 4294967295\n"},
		{impl.Line{Kind: impl.LineLa, In: impl.Inst{Rd: 10}, Sym: "f"}, "  la a0, f\n"},
		{impl.Line{Kind: impl.LineLa, In: impl.Inst{Rd: 10}, Sym: "f", N: farOn}, "  la a0, f+2147483647\n"},
		{impl.Line{Kind: impl.LineLa, In: impl.Inst{Rd: 10}, Sym: "f", N: farBack}, "  la a0, f-2147483648\n"},
		{impl.Line{Kind: impl.LineWord, Sym: "f"}, "  .word f\n"},
		{impl.Line{Kind: impl.LineWord, Sym: "f", N: 4}, "  .word f+4\n"},
		{impl.Line{Kind: impl.LineWord, Sym: "f", N: -1}, "  .word f-1\n"},
		{impl.Line{Kind: impl.LineWord}, "  .word 0\n"},
		{impl.Line{Kind: impl.LineAlign, N: 2}, "  .align 2\n"},
	} {
		if text, ok := impl.PrintAsm([]impl.Line{c.line}); !ok || string(text) != c.text {
			t.Errorf("%+v: %q, %v", c.line, text, ok)
		}
	}
}

func TestTextOfManyLines(t *testing.T) {
	lines := manyLines()
	lines = lines[:min(len(lines), impl.MaxLines)]
	want := strings.Builder{}
	for _, l := range lines {
		want.WriteString(textOf(l))
	}
	given := roomy(lines)
	room := slices.Clone(given[:cap(given)])
	text, ok := impl.PrintAsm(given)
	if !ok || string(text) != want.String() {
		t.Errorf("%d bytes, %v", len(text), ok)
	}
	if !slices.Equal(given[:cap(given)], room) {
		t.Errorf("PrintAsm wrote into its lines")
	}
	again, _ := impl.PrintAsm(given)
	if touch(text, again) {
		t.Errorf("two answers share memory")
	}
}

func TestHowManyLinesAreWritten(t *testing.T) {
	for _, c := range []struct {
		lines int
		ok    bool
	}{{0, true}, {1, true}, {impl.MaxLines, true}, {impl.MaxLines + 1, false}, {2 * impl.MaxLines, false}} {
		lines := slices.Repeat([]impl.Line{{Kind: impl.LineRet}}, c.lines)
		text, ok := impl.PrintAsm(lines)
		want := ""
		if c.ok {
			want = strings.Repeat("  ret\n", c.lines)
		}
		if ok != c.ok || string(text) != want {
			t.Errorf("%d lines: %d bytes, %v", c.lines, len(text), ok)
		}
	}
}

// longLines have a text of 20 bytes each: as many of them as may be have just as many bytes as may be.
func longLines(lines int) []impl.Line {
	return slices.Repeat([]impl.Line{{Kind: impl.LineLabel, Sym: strings.Repeat("z", 18)}}, lines)
}

func TestHowManyBytesAreWritten(t *testing.T) {
	lines := longLines(impl.MaxLines)
	if text, ok := impl.PrintAsm(lines); !ok || len(text) != impl.MaxAsm {
		t.Errorf("%d bytes, %v", len(text), ok)
	}
	lines[7].Sym += "z"
	if text, ok := impl.PrintAsm(lines); ok || len(text) != 0 {
		t.Errorf("one more: %d bytes, %v", len(text), ok)
	}
	lines[9].Sym = "z"
	if text, ok := impl.PrintAsm(lines); !ok || len(text) != impl.MaxAsm-16 {
		t.Errorf("shorter again: %d bytes, %v", len(text), ok)
	}
}

func TestOneBadLineAmongMany(t *testing.T) {
	for at := range 3 {
		lines := slices.Repeat([]impl.Line{{Kind: impl.LineRet}}, 3)
		lines[at].N = 1
		if text, ok := impl.PrintAsm(lines); ok || len(text) != 0 {
			t.Errorf("line %d: %q, %v", at, text, ok)
		}
	}
}
