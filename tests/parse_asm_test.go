package tests

import (
	"math/rand"
	"slices"
	"strings"
	"testing"

	"loop.example/s01681/impl"
)

func TestLinesThereAndBack(t *testing.T) {
	lines := manyLines()
	for len(lines) > 0 {
		some := lines[:min(len(lines), 700)]
		lines = lines[len(some):]
		text, ok := impl.PrintAsm(some)
		got, code, at := impl.ParseAsm(text)
		if !ok || code != 0 || at != 0 || !slices.Equal(got, some) {
			t.Fatalf("%v, %d, %d: %d lines of %d", ok, code, at, len(got), len(some))
		}
	}
}

func TestLabelsThereAndBack(t *testing.T) {
	good, _ := labelNames()
	for _, name := range good {
		lines := []impl.Line{
			{Kind: impl.LineLabel, Sym: name}, {Kind: impl.LineJ, Sym: name}, {Kind: impl.LineCall, Sym: name},
			{Kind: impl.LineJump, In: impl.Inst{Op: impl.OpBgeu}, Sym: name}, {Kind: impl.LineJump, In: impl.Inst{Op: impl.OpJal}, Sym: name},
			{Kind: impl.LineLa, Sym: name}, {Kind: impl.LineLa, Sym: name, N: 1}, {Kind: impl.LineWord, Sym: name}, {Kind: impl.LineWord, Sym: name, N: -1},
		}
		text, _ := impl.PrintAsm(lines)
		if got, code, at := impl.ParseAsm(text); code != 0 || at != 0 || !slices.Equal(got, lines) {
			t.Errorf("%q: %v, %d, %d", name, got, code, at)
		}
	}
}

// reads asks that a text is one line, wherever it stands in a text.
func reads(t *testing.T, text string, want impl.Line) {
	t.Helper()
	for _, c := range []struct {
		before, behind string
		more           []impl.Line
	}{
		{"", "", nil}, {"", "\n", nil}, {"\n\n", "", nil}, {"", "# ret", nil}, {" \t\r", "\r\t #\n#\n \n", nil},
		{"", "\nret", []impl.Line{{Kind: impl.LineRet}}},
	} {
		got, code, at := impl.ParseAsm([]byte(c.before + text + c.behind))
		if code != 0 || at != 0 || !slices.Equal(got, append([]impl.Line{want}, c.more...)) {
			t.Errorf("%q between %q and %q: %+v, %d, %d", text, c.before, c.behind, got, code, at)
		}
	}
}

// unread asks that a text is no line, and that its place is told.
func unread(t *testing.T, text string) {
	t.Helper()
	for _, c := range []struct {
		before, behind string
		at             int
	}{{"", "", 1}, {"\n", "\n", 2}, {"ret\n# x\n  ret # y\n", "\nfoo\nret", 4}, {" ", " ", 1}} {
		got, code, at := impl.ParseAsm([]byte(c.before + text + c.behind))
		if code != 2 || at != c.at || len(got) != 0 {
			t.Errorf("%q behind %q: %+v, %d, %d", text, c.before, got, code, at)
		}
	}
}

func TestTextsWithoutLines(t *testing.T) {
	for _, text := range []string{"", "\n", "\n\n\n", " ", "\t\r ", "#", "# ret", " # li", "#\n#\n", "\r\n\r\n", "##:#", "#\xff\x00"} {
		if got, code, at := impl.ParseAsm([]byte(text)); len(got) != 0 || code != 0 || at != 0 {
			t.Errorf("%q: %v, %d, %d", text, got, code, at)
		}
	}
}

func TestBlanksWhereTheyMayBe(t *testing.T) {
	add := impl.Line{Kind: impl.LineInst, In: impl.Inst{Op: impl.AluAdd, Rd: 10, Rs1: 11, Rs2: 12}}
	for _, gap := range []string{" ", "\t", "\r", "  ", " \t\r", "\r\r\t\t  "} {
		reads(t, "add"+gap+"a0,a1,a2", add)
		reads(t, "add a0"+gap+",a1,a2", add)
		reads(t, "add a0,"+gap+"a1,a2", add)
		reads(t, "add a0,a1"+gap+","+gap+"a2", add)
		reads(t, gap+"add"+gap+"a0"+gap+","+gap+"a1"+gap+","+gap+"a2"+gap+"# a3", add)
		reads(t, gap+"ret"+gap, impl.Line{Kind: impl.LineRet})
		reads(t, gap+"f:"+gap, impl.Line{Kind: impl.LineLabel, Sym: "f"})
		reads(t, ".word"+gap+"f", impl.Line{Kind: impl.LineWord, Sym: "f"})
		reads(t, "lw"+gap+"a0"+gap+","+gap+"4(a1)"+gap, impl.Line{Kind: impl.LineInst, In: impl.Inst{Op: impl.OpLw, Rd: 10, Rs1: 11, Imm: 4}})
	}
	reads(t, "f:#", impl.Line{Kind: impl.LineLabel, Sym: "f"})
	reads(t, "ret#", impl.Line{Kind: impl.LineRet})
	reads(t, "j f# g", impl.Line{Kind: impl.LineJ, Sym: "f"})
}

func TestBlanksWhereNoneMayBe(t *testing.T) {
	for _, gap := range []string{" ", "\t", "\r"} {
		for _, text := range []string{
			"lw a0, 4_(a1)", "lw a0, 4(_a1)", "lw a0, 4(a1_)", "lw a0, -_4(a1)", "sw a0, 4_(a1)", "jalr ra, 0(_ra)",
			"la a0, f_+1", "la a0, f+_1", "la a0, f_-1", "la a0, f-_1", ".word f_+1", ".word f+_1", ".word -_1",
			"f_:", "f:_g:", "f:_ret", "li a0, -_1", "li a0, 1_2", "li a0, 0x_1", "l_i a0, 1", "li a_0, 1", ".te_xt", "._byte 1",
		} {
			unread(t, strings.ReplaceAll(text, "_", gap))
		}
	}
	for _, other := range []string{"\v", "\f", "\x00", "\u00a0", "\u0085"} {
		unread(t, "li"+other+"a0, 1")
		unread(t, "li a0,"+other+"1")
		unread(t, "ret"+other+"x")
		unread(t, other+"ret"+other)
	}
}

func TestEachRegisterInText(t *testing.T) {
	for r, name := range strings.Fields(regNames) {
		for _, text := range []string{name, "x" + decimal(r)} {
			reads(t, "li "+text+", 1", impl.Line{Kind: impl.LineLi, In: impl.Inst{Rd: r}, N: 1})
			reads(t, "mv "+text+", t0", impl.Line{Kind: impl.LineMv, In: impl.Inst{Rd: r, Rs1: 5}})
			reads(t, "mv t0, "+text, impl.Line{Kind: impl.LineMv, In: impl.Inst{Rd: 5, Rs1: r}})
			reads(t, "sub t0, t1, "+text, impl.Line{Kind: impl.LineInst, In: impl.Inst{Op: impl.AluSub, Rd: 5, Rs1: 6, Rs2: r}})
			reads(t, "lb t0, 1("+text+")", impl.Line{Kind: impl.LineInst, In: impl.Inst{Op: impl.OpLb, Rd: 5, Rs1: r, Imm: 1}})
			reads(t, "sh "+text+", 1(t0)", impl.Line{Kind: impl.LineInst, In: impl.Inst{Op: impl.OpSh, Rs1: 5, Rs2: r, Imm: 1}})
			reads(t, "bne t0, "+text+", f", impl.Line{Kind: impl.LineJump, In: impl.Inst{Op: impl.OpBne, Rs1: 5, Rs2: r}, Sym: "f"})
			reads(t, "jal "+text+", f", impl.Line{Kind: impl.LineJump, In: impl.Inst{Op: impl.OpJal, Rd: r}, Sym: "f"})
		}
	}
	for _, name := range []string{"x32", "x00", "x01", "X1", "fp", "a8", "t7", "s12", "A0", "0", "1", "", "x", "x-1", "zeros", "f"} {
		for _, text := range []string{"li @, 1", "mv @, t0", "mv t0, @", "lb t0, 1(@)", "sh @, 1(t0)", "sub t0, t1, @", "beq @, t0, f", "jal @, f", "lui @, 1", "la @, f"} {
			unread(t, strings.ReplaceAll(text, "@", name))
		}
	}
}

// values are numbers as texts, and what they stand for.
var values = []struct {
	text string
	n    int
}{
	{"0", 0}, {"-0", 0}, {"00", 0}, {"0000000000", 0}, {"-0000000000", 0}, {"0x0", 0}, {"-0x0", 0}, {"0x00000000", 0},
	{"1", 1}, {"-1", -1}, {"01", 1}, {"-01", -1}, {"0000000001", 1}, {"-0000000001", -1}, {"0x1", 1}, {"-0x1", -1}, {"0x00000001", 1},
	{"9", 9}, {"0xa", 10}, {"0xA", 10}, {"0xf", 15}, {"0xF", 15}, {"-0xfF", -255}, {"0xaBcD", 43981}, {"-0x01", -1}, {"12", 12}, {"0x12", 18},
	{"1234567890", 1234567890}, {"0x12345678", 305419896}, {"0x9abcdef0", 2596069104}, {"0xffffffff", lastWord}, {"4294967295", lastWord},
	{"4294967296", lastWord + 1}, {"-4294967296", -lastWord - 1}, {"9999999999", 9999999999}, {"-9999999999", -9999999999},
	{"2147483647", farOn}, {"2147483648", farOn + 1}, {"-2147483648", farBack}, {"-2147483649", farBack - 1},
	{"0x7fffffff", farOn}, {"0x80000000", farOn + 1}, {"-0x80000000", farBack}, {"-0x80000001", farBack - 1}, {"-0xffffffff", -lastWord},
	{"31", 31}, {"32", 32}, {"0x1f", 31}, {"0x20", 32}, {"255", 255}, {"256", 256}, {"0xff", 255}, {"0x100", 256}, {"2", 2}, {"3", 3}, {"4", 4}, {"5", 5}, {"8", 8}, {"0x4", 4}, {"004", 4},
	{"2047", 2047}, {"2048", 2048}, {"-2048", -2048}, {"-2049", -2049}, {"0x7ff", 2047}, {"0x800", 2048}, {"-0x800", -2048}, {"-0x801", -2049},
	{"65535", 65535}, {"65536", 65536}, {"65537", 65537}, {"1048575", 1048575}, {"1048576", 1048576},
}

// noValues are texts that are no number.
var noValues = []string{
	"", "-", "+", "+1", "+0", "--1", "-+1", "00000000001", "01234567890", "12345678901", "-00000000000", "99999999999999999999", "0x", "-0x", "0X1", "0x000000001", "0x123456789",
	"0xg", "0x-1", "x1", "1x", "00x1", "0x1x", "1-", "1+1", "1_0", "0b1", "1e3", "0o7", "1.", ".5", "'a'", "a", "f", "1a", "\u0661", "1\x00", "0x1.", "1(", "(1)",
}

func TestValuesOfEachKind(t *testing.T) {
	for _, c := range []struct {
		word      string
		line      impl.Line
		low, high int
	}{
		{"li a0, ", impl.Line{Kind: impl.LineLi, In: impl.Inst{Rd: 10}}, farBack, lastWord},
		{".word ", impl.Line{Kind: impl.LineWord}, farBack, lastWord},
		{".byte ", impl.Line{Kind: impl.LineByte}, 0, 255},
		{".half ", impl.Line{Kind: impl.LineHalf}, 0, 65535},
		{".zero ", impl.Line{Kind: impl.LineZero}, 0, impl.MaxData},
		{".align ", impl.Line{Kind: impl.LineAlign}, 1, 4},
	} {
		for _, v := range values {
			l := c.line
			l.N = v.n & lastWord
			if v.n < c.low || v.n > c.high || l.Kind == impl.LineAlign && v.n == 3 {
				unread(t, c.word+v.text)
			} else {
				reads(t, c.word+v.text, l)
			}
		}
	}
}

func TestTextsThatAreNoValues(t *testing.T) {
	for _, text := range noValues {
		for _, word := range []string{"li a0, @", ".byte @", ".half @", ".zero @", ".align @", "addi a0, a0, @", "srli a0, a0, @", "lui a0, @", "lw a0, @(a0)", "sw a0, @(a0)", "jalr a0, @(a0)"} {
			unread(t, strings.ReplaceAll(word, "@", text))
		}
		if !impl.LineOk(impl.Line{Kind: impl.LineWord, Sym: text}) {
			unread(t, ".word "+text)
		}
	}
}

func TestImmOfEachForm(t *testing.T) {
	for _, c := range []struct {
		text      string
		in        impl.Inst
		low, high int
	}{
		{"addi a0, a1, @", impl.Inst{Op: impl.OpAddi, Rd: 10, Rs1: 11}, -2048, 2047},
		{"sltiu a0, a1, @", impl.Inst{Op: impl.OpSltiu, Rd: 10, Rs1: 11}, -2048, 2047},
		{"slli a0, a1, @", impl.Inst{Op: impl.OpSlli, Rd: 10, Rs1: 11}, 0, 31},
		{"lbu a0, @(a1)", impl.Inst{Op: impl.OpLbu, Rd: 10, Rs1: 11}, -2048, 2047},
		{"jalr a0, @(a1)", impl.Inst{Op: impl.OpJalr, Rd: 10, Rs1: 11}, -2048, 2047},
		{"sb a0, @(a1)", impl.Inst{Op: impl.OpSb, Rs2: 10, Rs1: 11}, -2048, 2047},
		{"lui a0, @", impl.Inst{Op: impl.OpLui, Rd: 10}, 0, 1048575},
	} {
		for _, v := range values {
			in := c.in
			in.Imm = v.n
			text := strings.ReplaceAll(c.text, "@", v.text)
			if v.n < c.low || v.n > c.high {
				unread(t, text)
			} else {
				reads(t, text, impl.Line{Kind: impl.LineInst, In: in})
			}
		}
	}
}

func TestDistances(t *testing.T) {
	for _, c := range []struct {
		word string
		line impl.Line
	}{
		{"la a0, f", impl.Line{Kind: impl.LineLa, In: impl.Inst{Rd: 10}, Sym: "f"}},
		{".word f", impl.Line{Kind: impl.LineWord, Sym: "f"}},
	} {
		reads(t, c.word, c.line)
		for _, v := range values {
			on, back := c.line, c.line
			on.N, back.N = v.n, -v.n
			if v.n < 0 || v.n > farOn {
				unread(t, c.word+"+"+v.text)
			} else {
				reads(t, c.word+"+"+v.text, on)
			}
			if v.n < 0 || -v.n < farBack {
				unread(t, c.word+"-"+v.text)
			} else {
				reads(t, c.word+"-"+v.text, back)
			}
		}
		for _, text := range noValues {
			unread(t, c.word+"+"+text)
			unread(t, c.word+"-"+text)
		}
		for _, text := range []string{"+1+1", "-1-1", "+1-1", "+a", "-a", "(a0)", "+1(a0)", "*1", "=1"} {
			unread(t, c.word+text)
		}
	}
	for _, text := range []string{"la a0, 1", "la a0, +1", "la a0, -1", "la a0, 1+1", "la a0, 9f+1", ".word 1+1", ".word +f", ".word -f", ".word 9f", ".word +1", ".word 1-f"} {
		unread(t, text)
	}
	for _, text := range []string{"j f+1", "j f+0", "j f-0", "call f+4", "beq a0, a1, f+8", "jal ra, f-4", "f+1:", "f-0:"} {
		unread(t, text)
	}
}

func TestWordsThatAreNone(t *testing.T) {
	for _, text := range []string{
		"foo", "foo a0, a1", "Ret", "RET", "rets", "re", "text", ".texts", ".bss", ".Byte 1", "..byte 1", ".asciz 1", "nop", "neg a0, a1", "bgt a0, a1, f", "jr ra",
		"lia0, 1", "li\x00a0, 1", "mulhsuu a0, a0, a0", "ebreakk", ".aligns 1", "add,a0,a0,a0", "li,a0,1", ",", ",ret", "1", "-", "+", "a0", "f", "_start", "\xff", "\u00e9", "ret;", "ret:ret", ";", "//", "jf", "callf",
	} {
		unread(t, text)
	}
}

func TestLabelsThatAreNone(t *testing.T) {
	_, bad := labelNames()
	for _, name := range append(bad, "") {
		if strings.ContainsAny(name, "#\n") || strings.Trim(name, " \t\r") != name {
			continue
		}
		unread(t, name+":")
		unread(t, "j "+name)
		unread(t, "jal ra, "+name)
		if !strings.ContainsAny(name, "+-") {
			unread(t, "la a0, "+name)
			unread(t, "la a0, "+name+"+1")
			unread(t, ".word x+"+name+"-1")
			unread(t, ".word "+name+"+1")
		}
	}
	for _, text := range []string{"f :", "f: g:", "f::", "f:ret", ":f", ": f", "f:,", "j f:"} {
		unread(t, text)
	}
}

// TestOperandsTooFewAndTooMany takes the last operand away from each line, and puts one more behind it.
func TestOperandsTooFewAndTooMany(t *testing.T) {
	for _, f := range lineForms() {
		text, _ := impl.PrintAsm([]impl.Line{f.line})
		row := strings.Trim(string(text), " \n")
		if f.line.Kind == impl.LineLabel {
			continue
		}
		reads(t, row, f.line)
		word, operands, any := strings.Cut(row, " ")
		if !any {
			for _, more := range []string{"a0", "1", ",", "f", "ret"} {
				unread(t, word+" "+more)
			}
			continue
		}
		unread(t, word)
		unread(t, word+operands)
		unread(t, word+" ,"+operands)
		for _, more := range []string{",", ", a0", ", 1", ", f", ",,", " a0", " 1", " f"} {
			unread(t, row+more)
		}
		if cut := strings.LastIndex(row, ","); cut >= 0 {
			unread(t, row[:cut])
			unread(t, row[:cut+1])
			unread(t, row[:cut]+" "+row[cut+1:])
			unread(t, row[:cut]+","+row[cut:])
		}
	}
}

func TestOperandsOfTheWrongKind(t *testing.T) {
	for _, text := range []string{
		"add a0, a0, 1", "addi a0, a0, a0", "addi a0, 1, a0", "addi a0, 1(a0)", "lw a0, a0, 1", "lw a0, a0", "lw a0, 4", "lw a0, (a0)", "lw a0, 4()", "lw a0, 4(a0", "lw a0, 4a0)", "lw a0, 4(a0))", "lw a0, 4((a0)", "lw a0, a0(4)",
		"lw a0, f(a0)", "lw a0, 4(a0)4", "lw a0, 4[a0]", "sw 4(a0), a0", "jalr ra", "jalr ra, ra, 0", "jal f", "jal 1, f", "jal ra, 8", "beq a0, a1, 8", "beq a0, a1, -8", "beq a0, 1, f", "beq a0, f", "j 8", "j -8", "call 8", "mv a0, 1", "mv 1, a0",
		"li 1, a0", "li a0, a0", "li a0, f", "la a0, 4", "la f, a0", "lui a0, f", ".byte f", ".half f", ".zero f", ".align f", ".align 0", ".align 3", ".align 8", ".align -1", ".text 1", "ecall 1", "ret ra",
	} {
		unread(t, text)
	}
}

func TestCodesOfTexts(t *testing.T) {
	ret := func(n int) string { return strings.Repeat("ret\n", n) }
	long := func(n int) string { return strings.Repeat("#", n) }
	for i, c := range []struct {
		text            string
		lines, code, at int
	}{
		{ret(impl.MaxLines), impl.MaxLines, 0, 0},
		{ret(impl.MaxLines) + "# more\n\n \n", impl.MaxLines, 0, 0},
		{ret(impl.MaxLines + 1), 0, 3, 0},
		{ret(impl.MaxLines) + "ret", 0, 3, 0},
		{ret(4 * impl.MaxLines), 0, 3, 0},
		{ret(impl.MaxLines+1) + "foo", 0, 2, impl.MaxLines + 2},
		{"foo\n" + ret(impl.MaxLines+1), 0, 2, 1},
		{ret(impl.MaxLines-1) + "foo\nret\nret\nbar", 0, 2, impl.MaxLines},
		{long(impl.MaxAsm), 0, 0, 0},
		{long(impl.MaxAsm + 1), 0, 1, 0},
		{"ret\n" + long(impl.MaxAsm-4), 1, 0, 0},
		{"foo\n" + long(impl.MaxAsm-4), 0, 2, 1},
		{"foo\n" + long(impl.MaxAsm-3), 0, 1, 0},
		{ret(impl.MaxAsm/4) + "\n", 0, 1, 0},
		{strings.Repeat("\n", impl.MaxAsm), 0, 0, 0},
		{strings.Repeat("\n", impl.MaxAsm-1) + "9", 0, 2, impl.MaxAsm},
		{strings.Repeat("\n", impl.MaxAsm+1), 0, 1, 0},
		{strings.Repeat(" ", impl.MaxAsm-3) + "ret", 1, 0, 0},
		{strings.Repeat(" ", impl.MaxAsm-2) + "ret", 0, 1, 0},
	} {
		lines, code, at := impl.ParseAsm([]byte(c.text))
		if len(lines) != c.lines || code != c.code || at != c.at {
			t.Errorf("case %d: %d lines, %d, %d", i, len(lines), code, at)
		}
	}
}

// looseText writes a line with freedoms taken at random.
func looseText(r *rand.Rand, l impl.Line) string {
	gap := func(least int) string {
		out := ""
		for range least + r.Intn(3) {
			out += string(" \t\r"[r.Intn(3)])
		}
		return out
	}
	row := strings.TrimSpace(textOf(l))
	word, operands, some := strings.Cut(row, " ")
	out := gap(0) + word
	if some {
		out += gap(1)
		for i, o := range strings.Split(operands, ", ") {
			if i > 0 {
				out += gap(0) + "," + gap(0)
			}
			out += o
		}
	}
	out += gap(0)
	for r.Intn(3) == 0 {
		out += "#" + gap(0) + "ret\n" + gap(0)
	}
	return out + "\n"
}

func TestLooseTextIsReadAsTheSame(t *testing.T) {
	r := rand.New(rand.NewSource(4))
	lines := manyLines()
	r.Shuffle(len(lines), func(i, j int) { lines[i], lines[j] = lines[j], lines[i] })
	for len(lines) > 0 {
		some := lines[:min(len(lines), 300)]
		lines = lines[len(some):]
		text := strings.Builder{}
		for _, l := range some {
			text.WriteString(looseText(r, l))
		}
		if got, code, at := impl.ParseAsm([]byte(text.String())); code != 0 || at != 0 || !slices.Equal(got, some) {
			t.Fatalf("%d, %d: %d lines of %d", code, at, len(got), len(some))
		}
	}
}

// TestTextsCutAndChanged asks of texts with a few bytes changed that what is read of them is well formed, and is read again.
func TestTextsCutAndChanged(t *testing.T) {
	const signs = " \t\r\n#:,()+-0x9af_.$\x00\xff"
	r := rand.New(rand.NewSource(5))
	lines := manyLines()
	for range 4000 {
		text := []byte(looseText(r, lines[r.Intn(len(lines))]) + looseText(r, lines[r.Intn(len(lines))]))
		for range r.Intn(3) {
			text[r.Intn(len(text))] = signs[r.Intn(len(signs))]
		}
		got, code, at := impl.ParseAsm(text)
		switch code {
		case 0:
			again, ok := impl.PrintAsm(got)
			back, _, _ := impl.ParseAsm(again)
			if at != 0 || !ok || !slices.Equal(back, got) {
				t.Errorf("%q: %v, %d", text, got, at)
			}
		case 2:
			_, before, _ := impl.ParseAsm(linesOf(text, at-1))
			_, with, n := impl.ParseAsm(linesOf(text, at))
			if len(got) != 0 || before != 0 || with != 2 || n != at {
				t.Errorf("%q: line %d", text, at)
			}
		default:
			t.Errorf("%q: code %d", text, code)
		}
	}
}

func linesOf(text []byte, n int) []byte {
	return []byte(strings.Join(strings.Split(string(text), "\n")[:n], "\n"))
}

func TestTextIsNotWrittenNorKept(t *testing.T) {
	lines := []impl.Line{{Kind: impl.LineLabel, Sym: "_start"}, {Kind: impl.LineJ, Sym: "_start"}, {Kind: impl.LineLa, Sym: "tab", N: 4}}
	text, _ := impl.PrintAsm(lines)
	given := roomy(text)
	room := slices.Clone(given[:cap(given)])
	got, code, _ := impl.ParseAsm(given)
	if !slices.Equal(given[:cap(given)], room) {
		t.Errorf("ParseAsm wrote into its text: %q", given[:cap(given)])
	}
	for i := range given {
		given[i] = 'q'
	}
	if code != 0 || !slices.Equal(got, lines) {
		t.Errorf("the lines hang on the text: %v", got)
	}
	again, _, _ := impl.ParseAsm(text)
	if touch(got, again) {
		t.Errorf("two answers share memory")
	}
}
