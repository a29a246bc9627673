package tests

import (
	"math"
	"math/rand"
	"slices"
	"strings"
	"testing"

	"loop.example/s01681/impl"
)

// linesFrom reads lines that are known to be right.
func linesFrom(t *testing.T, text string) []impl.Line {
	t.Helper()
	lines, code, at := impl.ParseAsm([]byte(text))
	if code != 0 {
		t.Fatalf("line %d of %.60q is none", at, text)
	}
	return lines
}

func assembled(t *testing.T, text string) impl.Image {
	t.Helper()
	im, code, at := impl.Assemble(linesFrom(t, text), 64)
	if code != 0 || at != 0 || !impl.ImageOk(im) || im.Stack != 64 {
		t.Fatalf("%.60q: %d, %d", text, code, at)
	}
	return im
}

// insts gives the instructions of an image.
func insts(t *testing.T, im impl.Image) []impl.Inst {
	t.Helper()
	var out []impl.Inst
	for i, w := range im.Code {
		in, ok := impl.DecodeInst(w)
		if !ok {
			t.Fatalf("word %d, %#x, is no instruction", i, w)
		}
		out = append(out, in)
	}
	return out
}

// refusedLines asks for a code and a position, and for nothing beside them.
func refusedLines(t *testing.T, name string, lines []impl.Line, stack, wantCode, wantAt int) {
	t.Helper()
	im, code, at := impl.Assemble(lines, stack)
	if code != wantCode || at != wantAt {
		t.Errorf("%s: %d, %d, not %d, %d", name, code, at, wantCode, wantAt)
	}
	if len(im.Code) != 0 || len(im.Data) != 0 || im.Entry != 0 || im.Stack != 0 {
		t.Errorf("%s: there is an image beside a code", name)
	}
}

func TestWordsOfEachInstruction(t *testing.T) {
	var lines []impl.Line
	var want []int
	lines = append(lines, impl.Line{Kind: impl.LineLabel, Sym: "_start"})
	for _, l := range manyLines() {
		if l.Kind == impl.LineInst && len(want) < impl.MaxCode {
			lines = append(lines, l)
			want = append(want, wordOf(l.In))
		}
	}
	im, code, at := impl.Assemble(lines, 0)
	if code != 0 || at != 0 || !slices.Equal(im.Code, want) || len(im.Data) != 0 || im.Entry != impl.CodeBase || im.Stack != 0 {
		t.Errorf("%d, %d: %d words, %d bytes, %d, %d", code, at, len(im.Code), len(im.Data), im.Entry, im.Stack)
	}
}

func TestLinesOfOneWord(t *testing.T) {
	for _, c := range []struct {
		text string
		in   impl.Inst
	}{
		{"mv a0, a1", impl.Inst{Op: impl.OpAddi, Rd: 10, Rs1: 11}},
		{"mv zero, t6", impl.Inst{Op: impl.OpAddi, Rs1: 31}},
		{"ret", impl.Inst{Op: impl.OpJalr, Rs1: 1}},
		{"j _start", impl.Inst{Op: impl.OpJal, Imm: -4}},
		{"call _start", impl.Inst{Op: impl.OpJal, Rd: 1, Imm: -4}},
		{"jal t0, _start", impl.Inst{Op: impl.OpJal, Rd: 5, Imm: -4}},
		{"bge a0, a1, _start", impl.Inst{Op: impl.OpBge, Rs1: 10, Rs2: 11, Imm: -4}},
		{"beq a0, a1, here", impl.Inst{Op: impl.OpBeq, Rs1: 10, Rs2: 11}},
		{"j here", impl.Inst{Op: impl.OpJal}},
		{"bltu a0, a1, next", impl.Inst{Op: impl.OpBltu, Rs1: 10, Rs2: 11, Imm: 4}},
		{"call end", impl.Inst{Op: impl.OpJal, Rd: 1, Imm: 8}},
		{"li a0, 0", impl.Inst{Op: impl.OpAddi, Rd: 10}},
		{"li a0, 2047", impl.Inst{Op: impl.OpAddi, Rd: 10, Imm: 2047}},
		{"li a0, -2048", impl.Inst{Op: impl.OpAddi, Rd: 10, Imm: -2048}},
		{"li a0, 4294967295", impl.Inst{Op: impl.OpAddi, Rd: 10, Imm: -1}},
		{"li a0, 4294965248", impl.Inst{Op: impl.OpAddi, Rd: 10, Imm: -2048}},
		{"lw a0, -4(sp)", impl.Inst{Op: impl.OpLw, Rd: 10, Rs1: 2, Imm: -4}},
	} {
		im := assembled(t, "_start:\necall\nhere:\n"+c.text+"\nnext:\nebreak\nend:\n")
		got := insts(t, im)
		if len(got) != 3 || got[1] != c.in || got[0].Op != impl.OpEcall || got[2].Op != impl.OpEbreak {
			t.Errorf("%s: %+v", c.text, got)
		}
	}
}

// madeBy runs an image for as many steps as it has words, and gives register 10.
func madeBy(im impl.Image) int {
	m, _ := impl.StartMachine(im, nil)
	return impl.RunMachine(m, len(im.Code)).Regs[10]
}

func TestNumbersInOneWordAndInTwo(t *testing.T) {
	for _, n := range append(slices.Clone(edges),
		-2050, -2049, -2048, -2047, -1, 0, 1, 2046, 2047, 2048, 2049, 4095, 4096, 4097, 6143, 6144, 8191,
		0x12345000+2047, 0x12345000+2048, 0x12345fff, 0x7ffff7ff, 0x7ffff800, 0x7fffffff, 0x80000000, 0x800007ff, 0x80000800,
		0xfffff7ff, 0xfffff800, 0xfffff000, 0xffffefff, 0xffffffff, 0xfffff801) {
		l := impl.Line{Kind: impl.LineLi, In: impl.Inst{Rd: 10}, N: impl.Word(n)}
		im, code, _ := impl.Assemble([]impl.Line{{Kind: impl.LineLabel, Sym: "_start"}, l, {Kind: impl.LineLabel, Sym: "end"}, {Kind: impl.LineJ, Sym: "end"}}, 0)
		words := 3
		if s := impl.Signed(n); s >= -2048 && s <= 2047 {
			words = 2
		}
		if code != 0 || len(im.Code) != words || madeBy(im) != impl.Word(n) {
			t.Errorf("li of %d: %d, %d words, made %d", n, code, len(im.Code), madeBy(im))
		}
		if in := insts(t, im); in[len(in)-1] != (impl.Inst{Op: impl.OpJal}) {
			t.Errorf("li of %d: the label behind it is not behind it", n)
		}
	}
}

func TestTwoWordsByHand(t *testing.T) {
	for _, c := range []struct{ n, high, low int }{
		{2048, 1, -2048}, {4096, 1, 0}, {0x12345000 + 2047, 0x12345, 2047}, {0x12345000 + 2048, 0x12346, -2048},
		{0xfffff7ff, 0xfffff, 2047}, {-2049 & lastWord, 0xfffff, 2047}, {0x7fffffff, 0x80000, -1}, {0x80000000, 0x80000, 0}, {0x7ffff800, 0x80000, -2048},
	} {
		want := []impl.Inst{{Op: impl.OpLui, Rd: 7, Imm: c.high}, {Op: impl.OpAddi, Rd: 7, Rs1: 7, Imm: c.low}}
		if got := insts(t, assembled(t, "_start:\nli t2, "+decimal(c.n))); !slices.Equal(got, want) {
			t.Errorf("%d: %+v", c.n, got)
		}
	}
	// Of a register that can't be written, too.
	want := []impl.Inst{{Op: impl.OpLui, Imm: 1}, {Op: impl.OpAddi, Imm: -2048}}
	if got := insts(t, assembled(t, "_start:\nli zero, 2048")); !slices.Equal(got, want) {
		t.Errorf("register 0: %+v", got)
	}
}

func TestAddressesWithDistances(t *testing.T) {
	const data = "\nend:\n.data\n.byte 1\n.align 4\ntab:\n.word 7\nlast:"
	for _, c := range []struct {
		label string
		at    int
	}{{"_start", impl.CodeBase}, {"end", impl.CodeBase + 8}, {"tab", impl.DataBase + 4}, {"last", impl.DataBase + 8}} {
		for _, n := range []int{0, 1, -1, 4, 2047, 2048, -2048, -2049, -impl.CodeBase, -c.at, -c.at - 1, 2047 - c.at, 2048 - c.at, 0x7ff - 8, farOn, farBack} {
			im := assembled(t, "_start:\nla a0, "+c.label+distance(n)+data)
			if len(im.Code) != 2 || madeBy(im) != impl.Word(c.at+n) {
				t.Errorf("%s%s: %d words, %d", c.label, distance(n), len(im.Code), madeBy(im))
			}
			im = assembled(t, "_start:\nret\nret"+data+"\n.word "+c.label+distance(n))
			if v := impl.Word(c.at + n); string(im.Data[8:]) != string([]byte{byte(v), byte(v >> 8), byte(v >> 16), byte(v >> 24)}) {
				t.Errorf(".word %s%s: %x", c.label, distance(n), im.Data)
			}
		}
	}
}

func TestBytesOfData(t *testing.T) {
	for _, c := range []struct{ text, data string }{
		{"", ""}, {".byte 0", "\x00"}, {".byte 255", "\xff"}, {".half 65535", "\xff\xff"}, {".half 258", "\x02\x01"},
		{".word 0x04030201", "\x01\x02\x03\x04"}, {".word -1", "\xff\xff\xff\xff"}, {".word -2", "\xfe\xff\xff\xff"},
		{".zero 0", ""}, {".zero 1", "\x00"}, {".zero 5\n.byte 1", "\x00\x00\x00\x00\x00\x01"},
		{".align 1", ""}, {".align 2", ""}, {".align 4", ""}, {".byte 9\n.word 1", "\x09\x01\x00\x00\x00"},
		{".half 1\n.byte 2\n.word 3\n.zero 2\n.half 4", "\x01\x00\x02\x03\x00\x00\x00\x00\x00\x04\x00"},
	} {
		if im := assembled(t, "_start:\nret\n.data\n"+c.text); string(im.Data) != c.data {
			t.Errorf("%q: %x", c.text, im.Data)
		}
	}
}

func TestAlignBehindEachNumberOfBytes(t *testing.T) {
	for before := range 10 {
		for _, n := range []int{1, 2, 4} {
			im := assembled(t, "_start:\nret\n.data\n"+strings.Repeat(".byte 7\n", before)+"front:\n.align "+decimal(n)+"\nback:\n.byte 9\n.word front\n.word back")
			to := (before + n - 1) / n * n
			front, back := impl.DataBase+before, impl.DataBase+to
			want := strings.Repeat("\x07", before) + strings.Repeat("\x00", to-before) + "\x09"
			for _, v := range []int{front, back} {
				want += string([]byte{byte(v), byte(v >> 8), byte(v >> 16), 0})
			}
			if string(im.Data) != want {
				t.Errorf("%d bytes, align %d: %x, not %x", before, n, im.Data, want)
			}
		}
	}
}

// TestPartsThatChange has an align too, which counts the bytes of data alone, over all its stretches.
func TestPartsThatChange(t *testing.T) {
	im := assembled(t, `
.data
first:
.byte 1
.text
f:
  ret
.data
second:
.data
.align 2
third:
.half 2
.text
.text
_start:
  call f
  la a0, second
.data
.word _start
.word third
.text
g:
  j f
end:
.data
.word end
.word last
last:
`)
	want := []impl.Inst{
		{Op: impl.OpJalr, Rs1: 1},
		{Op: impl.OpJal, Rd: 1, Imm: -4},
		{Op: impl.OpLui, Rd: 10, Imm: impl.DataBase / 4096}, {Op: impl.OpAddi, Rd: 10, Rs1: 10, Imm: 1},
		{Op: impl.OpJal, Imm: -16},
	}
	if got := insts(t, im); !slices.Equal(got, want) || im.Entry != impl.CodeBase+4 {
		t.Errorf("%+v, entry %d", got, im.Entry)
	}
	data := "\x01\x00\x02\x00" + "\x04\x00\x01\x00" + "\x02\x00\x10\x00" + "\x14\x00\x01\x00" + "\x14\x00\x10\x00"
	if string(im.Data) != data {
		t.Errorf("%x, not %x", im.Data, data)
	}
}

func TestSeveralLabelsAtOnePlace(t *testing.T) {
	im := assembled(t, "a:\nb:\n_start:\nc:\nj a\nj b\nj c\nj d\nd:\ne:\nj e\n.data\nx:\ny:\n.word x\n.word y")
	var imms []int
	for _, in := range insts(t, im) {
		imms = append(imms, in.Imm)
	}
	if !slices.Equal(imms, []int{0, -4, -8, 4, 0}) || string(im.Data) != "\x00\x00\x10\x00\x00\x00\x10\x00" {
		t.Errorf("%v, %x", imms, im.Data)
	}
}

// farText has a jump over so many words, forward or back.
func farText(jump string, words int, back bool) string {
	fill := strings.Repeat("ret\n", words)
	if back {
		return "_start:\nf:\n" + fill + jump + "\n"
	}
	return "_start:\n" + jump + "\n" + fill + "f:\n"
}

func TestJumpsAtTheGreatestDistance(t *testing.T) {
	for op := impl.OpBeq; op <= impl.OpBgeu; op++ {
		jump := impl.OpName(op) + " a0, a1, f"
		im := assembled(t, farText(jump, 1022, false))
		if in, _ := impl.DecodeInst(im.Code[0]); in != (impl.Inst{Op: op, Rs1: 10, Rs2: 11, Imm: 4092}) {
			t.Errorf("%s forward: %+v", jump, in)
		}
		im = assembled(t, farText(jump, 1024, true))
		if in, _ := impl.DecodeInst(im.Code[1024]); in != (impl.Inst{Op: op, Rs1: 10, Rs2: 11, Imm: -4096}) {
			t.Errorf("%s back: %+v", jump, in)
		}
		refusedLines(t, jump+" too far", linesFrom(t, farText(jump, 1023, false)), 0, 7, 1)
		refusedLines(t, jump+" too far back", linesFrom(t, farText(jump, 1025, true)), 0, 7, 1027)
	}
	for _, jump := range []string{"jal t0, f", "j f", "call f"} {
		im := assembled(t, farText(jump, impl.MaxCode-1, false))
		if in, _ := impl.DecodeInst(im.Code[0]); in.Op != impl.OpJal || in.Imm != 4*impl.MaxCode {
			t.Errorf("%s over all: %+v", jump, in)
		}
		im = assembled(t, farText(jump, impl.MaxCode-1, true))
		if in, _ := impl.DecodeInst(im.Code[impl.MaxCode-1]); in.Op != impl.OpJal || in.Imm != -4*(impl.MaxCode-1) {
			t.Errorf("%s back over all: %+v", jump, in)
		}
	}
}

func TestFarJumpsCountTwoWords(t *testing.T) {
	for _, c := range []struct {
		fill string
		ok   bool
	}{
		{strings.Repeat("li a0, 5000\n", 511), true}, {strings.Repeat("li a0, 5000\n", 511) + "ret\n", false},
		{strings.Repeat("la a0, f\n", 511), true}, {strings.Repeat("la a0, f\n", 512), false},
		{strings.Repeat("li a0, 5\n", 1022), true}, {strings.Repeat("li a0, 5\n", 1023), false},
		{strings.Repeat(".data\n.zero 100\n.text\nret\n", 500), true},
	} {
		_, code, at := impl.Assemble(linesFrom(t, "_start:\nbne a0, a1, f\n"+c.fill+"f:"), 0)
		if c.ok && code != 0 || !c.ok && (code != 7 || at != 1) {
			t.Errorf("%q: %d, %d", c.fill[:10], code, at)
		}
	}
}

func TestCodesOfLines(t *testing.T) {
	ret := func(n int) string { return strings.Repeat("ret\n", n) }
	for i, c := range []struct {
		text            string
		stack, code, at int
	}{
		{"_start:\nret\n.data\n", 0, 0, 0},
		{".byte 1\n_start:\nret", 0, 2, 0},
		{"_start:\nret\n.align 4", 0, 2, 2},
		{"_start:\nret\n.zero 0", 0, 2, 2},
		{"_start:\nret\n.half 0", 0, 2, 2},
		{"_start:\nret\n.word _start", 0, 2, 2},
		{"_start:\nret\n.data\n.text\n.word 1\n.byte 1", 0, 2, 4},
		{"_start:\nret\n.data\nmv a0, a1", 0, 2, 3},
		{"_start:\nret\n.data\nli a0, 1", 0, 2, 3},
		{"_start:\nret\n.data\nla a0, _start", 0, 2, 3},
		{"_start:\nret\n.data\nj _start", 0, 2, 3},
		{"_start:\nret\n.data\ncall _start", 0, 2, 3},
		{"_start:\nret\n.data\nbeq a0, a1, _start", 0, 2, 3},
		{"_start:\nret\n.data\njal ra, _start", 0, 2, 3},
		{"_start:\nret\n.data\necall", 0, 2, 3},
		{"_start:\nret\n.data\n.byte 1\nret", 0, 2, 4},
		{"_start:\nret\nf:\ng:\ng:\nf:", 0, 3, 4},
		{"_start:\nret\n.data\n_start:\n", 0, 3, 3},
		{"_start:\nret\n_start:\n", 0, 3, 2},
		{"f:\nf:\nf:\n_start:\nret", 0, 3, 1},
		{"_start:\nla a0, f", 0, 4, 1},
		{"_start:\ncall f", 0, 4, 1},
		{"_start:\nbeq a0, a0, _star", 0, 4, 1},
		{"_start:\njal ra, _Start", 0, 4, 1},
		{"_start:\nret\n.data\n.word 1\n.word f\n.word g", 0, 4, 4},
		{"", 0, 5, 0},
		{"_start:\n.data\n.byte 1", 0, 5, 0},
		{".text\n.data", 0, 5, 0},
		{"_start:\n" + ret(impl.MaxCode), 0, 0, 0},
		{"_start:\n" + ret(impl.MaxCode+1), 0, 5, 0},
		{"_start:\nli a0, 5000\n" + ret(impl.MaxCode-2), 0, 0, 0},
		{"_start:\nli a0, 5000\n" + ret(impl.MaxCode-1), 0, 5, 0},
		{"_start:\nli a0, 5\n" + ret(impl.MaxCode-1), 0, 0, 0},
		{"_start:\nla a0, _start\n" + ret(impl.MaxCode-1), 0, 5, 0},
		{"_start:\nret\n.data\n.zero 65536", 0, 0, 0},
		{"_start:\nret\n.data\n.zero 65535\n.byte 1", 0, 0, 0},
		{"_start:\nret\n.data\n.zero 65536\n.byte 1", 0, 6, 0},
		{"_start:\nret\n.data\n.zero 65535\n.half 1", 0, 6, 0},
		{"_start:\nret\n.data\n.zero 65533\n.align 4", 0, 0, 0},
		{"_start:\nret\n.data\n.zero 65533\n.align 4\n.byte 0", 0, 6, 0},
		{"_start:\nret\n.data\n" + strings.Repeat(".zero 65536\n", 19990), 0, 6, 0},
		{"_start:\nj d\n.data\nd:", 0, 7, 1},
		{"_start:\ncall d\n.data\nd:\n.byte 1", 0, 7, 1},
		{"_start:\nret\njal ra, d\n.data\nd:\n.byte 1", 0, 7, 2},
		{"_start:\nret\nbeq a0, a0, d\nj d\n.data\nd:\n.byte 1", 0, 7, 2},
		{"ret", 0, 8, 0},
		{"ret\n_start:", 0, 8, 0},
		{"ret\n.data\n_start:\n.byte 1", 0, 8, 0},
		{"start:\nret", 0, 8, 0},
		{"ret\n_start:\nret", 0, 0, 0},
		{"_start:\n.data\n.byte 1\n.text\nret", 0, 0, 0},
		{"_start:\nret", -16, 9, 0}, {"_start:\nret", -1, 9, 0}, {"_start:\nret", 1, 9, 0}, {"_start:\nret", 15, 9, 0}, {"_start:\nret", 17, 9, 0},
		{"_start:\nret", 0, 0, 0}, {"_start:\nret", 16, 0, 0}, {"_start:\nret", impl.MaxStack, 0, 0}, {"_start:\nret", impl.MaxStack + 16, 9, 0},
		{"_start:\nret", math.MaxInt, 9, 0}, {"_start:\nret", math.MinInt, 9, 0},
	} {
		lines := linesFrom(t, c.text)
		if c.code != 0 {
			refusedLines(t, "case "+decimal(i), lines, c.stack, c.code, c.at)
		} else if im, code, at := impl.Assemble(lines, c.stack); code != 0 || at != 0 || !impl.ImageOk(im) || im.Stack != c.stack {
			t.Errorf("case %d: %d, %d", i, code, at)
		}
	}
}

// faultyLines has, for each code in turn, lines and a stack that break that rule and no other.
func faultyLines(t *testing.T) ([][]impl.Line, []int) {
	lines := [][]impl.Line{
		{{Kind: impl.LineRet, N: 1}},
		linesFrom(t, ".byte 1"),
		linesFrom(t, "twice:\ntwice:"),
		linesFrom(t, "j nowhere"),
		linesFrom(t, strings.Repeat("ret\n", impl.MaxCode+1)),
		linesFrom(t, ".data\n.zero 65536\n.byte 1\n.text\nret"),
		linesFrom(t, "j data\n.data\ndata:\n.text\nret"),
		linesFrom(t, "ret"),
		linesFrom(t, "_start:\nret"),
	}
	return lines, []int{0, 0, 0, 0, 0, 0, 0, 0, 8}
}

// TestTheFirstCodeIsTold puts the lines that break each two rules behind each other, in both orders.
func TestTheFirstCodeIsTold(t *testing.T) {
	lines, stacks := faultyLines(t)
	positions := []int{0, 0, 1, 0, 0, 0, 0, 0, 0}
	for a := range lines {
		for b := a + 1; b < len(lines); b++ {
			if a == 7 {
				// Lines that break no rule but that of the stack have a _start.
				continue
			}
			both := slices.Concat(lines[a], []impl.Line{{Kind: impl.LineText}}, lines[b])
			refusedLines(t, decimal(a+1)+" then "+decimal(b+1), both, stacks[b], a+1, positions[a])
			at := positions[a]
			if a < 4 || a == 6 {
				at += len(lines[b]) + 1
			}
			turned := slices.Concat(lines[b], []impl.Line{{Kind: impl.LineText}}, lines[a])
			refusedLines(t, decimal(b+1)+" then "+decimal(a+1), turned, stacks[b], a+1, at)
		}
	}
	refusedLines(t, "8 and 9", lines[7], 8, 8, 0)
}

func TestTooManyLines(t *testing.T) {
	lines := slices.Repeat([]impl.Line{{Kind: impl.LineText}}, impl.MaxLines-2)
	lines = append(lines, impl.Line{Kind: impl.LineLabel, Sym: "_start"}, impl.Line{Kind: impl.LineRet})
	if im, code, at := impl.Assemble(lines, 0); code != 0 || at != 0 || len(im.Code) != 1 {
		t.Errorf("as many as may be: %d, %d", code, at)
	}
	refusedLines(t, "one more", append(lines, impl.Line{Kind: impl.LineText}), 0, 1, impl.MaxLines)
	refusedLines(t, "many more", slices.Repeat(lines, 2), 0, 1, impl.MaxLines)
	bad := append(slices.Clone(lines), impl.Line{})
	bad[3].N = 1
	refusedLines(t, "a bad line among too many", bad, 0, 1, impl.MaxLines)
	refusedLines(t, "a bad line among as many as may be", bad[:impl.MaxLines], 0, 1, 3)
	refusedLines(t, "no lines", nil, 0, 5, 0)
}

func TestTheFirstBadLine(t *testing.T) {
	lines := linesFrom(t, "_start:\nret\nret\nret")
	lines[3].N, lines[2].Sym = 1, "f"
	refusedLines(t, "two bad lines", lines, 0, 1, 2)
}

func TestLinesAreNotWrittenNorKept(t *testing.T) {
	lines := linesFrom(t, "_start:\nla a0, tab+1\nbeq a0, a1, _start\nli a0, 70000\nret\n.data\ntab:\n.word _start\n.byte 1\n.align 4")
	given := roomy(lines)
	room := slices.Clone(given[:cap(given)])
	first, code, _ := impl.Assemble(given, 32)
	if !slices.Equal(given[:cap(given)], room) {
		t.Errorf("Assemble wrote into its lines")
	}
	again, _, _ := impl.Assemble(given, 32)
	if code != 0 || touch(first.Code, again.Code) || touch(first.Data, again.Data) {
		t.Errorf("two answers share memory")
	}
	clear(given)
	if !slices.Equal(first.Code, again.Code) || !slices.Equal(first.Data, again.Data) || len(first.Code) != 6 {
		t.Errorf("the image hangs on the lines")
	}
}

// sizeBy gives how many bytes a line takes, behind so many bytes of its part.
func sizeBy(l impl.Line, before int) int {
	switch l.Kind {
	case impl.LineLabel, impl.LineText, impl.LineData:
		return 0
	case impl.LineByte:
		return 1
	case impl.LineHalf:
		return 2
	case impl.LineZero:
		return l.N
	case impl.LineAlign:
		size := 0
		for (before+size)%l.N != 0 {
			size++
		}
		return size
	case impl.LineLa:
		return 8
	case impl.LineLi:
		if l.N >= 2048 && l.N < 4294965248 {
			return 8
		}
	}
	return 4
}

// stretchesBy gives, line by line, the address at which each one begins and that behind it.
func stretchesBy(lines []impl.Line) [][2]int {
	at := [2]int{impl.CodeBase, impl.DataBase}
	part := 0
	var out [][2]int
	for _, l := range lines {
		if l.Kind == impl.LineText || l.Kind == impl.LineData {
			part = l.Kind - impl.LineText
		}
		from := at[part]
		at[part] += sizeBy(l, from)
		out = append(out, [2]int{from, at[part]})
	}
	return out
}

// anyProgram makes lines at random, with jumps that are never too far.
func anyProgram(r *rand.Rand) []impl.Line {
	names := []string{"_start", "a", "b", "c", "d", "e", "x", "y"}
	lines := []impl.Line{}
	inData := false
	for i, name := range names {
		lines = append(lines, impl.Line{Kind: impl.LineText})
		if inData = i >= 6; inData {
			lines = append(lines, impl.Line{Kind: impl.LineData})
		}
		lines = append(lines, impl.Line{Kind: impl.LineLabel, Sym: name}, impl.Line{Kind: impl.LineText})
		for range 1 + r.Intn(8) {
			lines = append(lines, anyTextLine(r, names))
		}
		lines = append(lines, impl.Line{Kind: impl.LineData})
		for range r.Intn(6) {
			lines = append(lines, anyDataLine(r, names))
		}
	}
	return lines
}

func anyTextLine(r *rand.Rand, names []string) impl.Line {
	sym, jumpTo := names[r.Intn(8)], names[r.Intn(6)]
	reg := r.Intn(32)
	n := []int{r.Intn(5000), lastWord - r.Intn(5000), r.Intn(lastWord), r.Intn(1<<20)<<12 + 2047 + r.Intn(2)}[r.Intn(4)]
	switch r.Intn(7) {
	case 0:
		return impl.Line{Kind: impl.LineLi, In: impl.Inst{Rd: reg}, N: n}
	case 1:
		return impl.Line{Kind: impl.LineLa, In: impl.Inst{Rd: reg}, Sym: sym, N: impl.Signed(n)}
	case 2:
		return impl.Line{Kind: impl.LineMv, In: impl.Inst{Rd: reg, Rs1: r.Intn(32)}}
	case 3:
		return impl.Line{Kind: impl.LineJ + r.Intn(2), Sym: jumpTo}
	case 4:
		return impl.Line{Kind: impl.LineRet}
	}
	in := anyInst(r, 9)
	if form := formOf(in.Op); form == 'B' || form == 'J' {
		in.Imm = 0
		return impl.Line{Kind: impl.LineJump, In: in, Sym: jumpTo}
	}
	return impl.Line{Kind: impl.LineInst, In: in}
}

func anyDataLine(r *rand.Rand, names []string) impl.Line {
	switch r.Intn(6) {
	case 0:
		return impl.Line{Kind: impl.LineByte, N: r.Intn(256)}
	case 1:
		return impl.Line{Kind: impl.LineHalf, N: r.Intn(65536)}
	case 2:
		return impl.Line{Kind: impl.LineWord, N: r.Intn(lastWord)}
	case 3:
		return impl.Line{Kind: impl.LineWord, Sym: names[r.Intn(8)], N: r.Intn(lastWord) + farBack}
	case 4:
		return impl.Line{Kind: impl.LineZero, N: r.Intn(9)}
	}
	return impl.Line{Kind: impl.LineAlign, N: 1 << r.Intn(3)}
}

// checkText asks that the words at a line's address are what the line stands for.
func checkText(t *testing.T, l impl.Line, at int, labels map[string]int, words []impl.Inst) {
	t.Helper()
	in := words[(at-impl.CodeBase)/4]
	want := l.In
	switch l.Kind {
	case impl.LineJump:
		want.Imm = labels[l.Sym] - at
	case impl.LineJ:
		want = impl.Inst{Op: impl.OpJal, Imm: labels[l.Sym] - at}
	case impl.LineCall:
		want = impl.Inst{Op: impl.OpJal, Rd: 1, Imm: labels[l.Sym] - at}
	case impl.LineMv:
		want.Op = impl.OpAddi
	case impl.LineRet:
		want = impl.Inst{Op: impl.OpJalr, Rs1: 1}
	case impl.LineLi, impl.LineLa:
		checkValue(t, l, labels[l.Sym]+l.N, words[(at-impl.CodeBase)/4:])
		return
	}
	if in != want {
		t.Errorf("%+v at %d: %+v", l, at, in)
	}
}

func checkValue(t *testing.T, l impl.Line, n int, words []impl.Inst) {
	t.Helper()
	got, from := 0, words[0]
	if from.Op == impl.OpLui {
		got, from = from.Imm<<12, words[1]
		if from.Rs1 != l.In.Rd || words[0].Rd != l.In.Rd {
			t.Errorf("%+v: %+v", l, words[:2])
		}
	} else if from.Rs1 != 0 || l.Kind == impl.LineLa {
		t.Errorf("%+v: %+v", l, words[0])
	}
	if from.Op != impl.OpAddi || from.Rd != l.In.Rd || impl.Word(got+from.Imm) != impl.Word(n) {
		t.Errorf("%+v: %+v", l, words[:2])
	}
}

func checkData(t *testing.T, l impl.Line, labels map[string]int, data []byte) {
	t.Helper()
	n := l.N
	if l.Kind == impl.LineZero || l.Kind == impl.LineAlign {
		n = 0
	}
	if l.Sym != "" {
		n += labels[l.Sym]
	}
	for i, b := range data {
		if b != byte(impl.Word(n)>>(8*i)) {
			t.Errorf("%+v: byte %d is %d", l, i, b)
		}
	}
}

// checkImage asks for each line's words or bytes, and that each jump ends within Code, at its end at the latest.
func checkImage(t *testing.T, lines []impl.Line, im impl.Image) {
	t.Helper()
	words := insts(t, im)
	stretches := stretchesBy(lines)
	labels := map[string]int{}
	for i, l := range lines {
		if l.Kind == impl.LineLabel {
			labels[l.Sym] = stretches[i][0]
		}
	}
	for i, l := range lines {
		from, to := stretches[i][0], stretches[i][1]
		switch {
		case l.Kind >= impl.LineInst && l.Kind <= impl.LineRet:
			checkText(t, l, from, labels, words)
		case l.Kind >= impl.LineByte:
			checkData(t, l, labels, im.Data[from-impl.DataBase:to-impl.DataBase])
		}
	}
	for i, in := range words {
		if form := formOf(in.Op); form == 'B' || form == 'J' {
			if to := 4*i + in.Imm; to < 0 || to > 4*len(words) || to%4 != 0 {
				t.Errorf("word %d jumps to %d", i, to)
			}
		}
	}
	if im.Entry != labels["_start"] {
		t.Errorf("entry %d", im.Entry)
	}
}

func TestManyPrograms(t *testing.T) {
	r := rand.New(rand.NewSource(6))
	for range 300 {
		lines := anyProgram(r)
		text, ok := impl.PrintAsm(lines)
		back, code, _ := impl.ParseAsm(text)
		if !ok || code != 0 || !slices.Equal(back, lines) {
			t.Fatalf("the lines do not come back: %s", text)
		}
		im, code, at := impl.Assemble(back, 16*r.Intn(10))
		if code != 0 || at != 0 || !impl.ImageOk(im) {
			t.Fatalf("%d, %d: %s", code, at, text)
		}
		checkImage(t, lines, im)
	}
}
