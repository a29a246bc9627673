package tests

import (
	"math"
	"strconv"
	"strings"
	"testing"

	"loop.example/s01681/impl"
)

const opNames = "add sub sll slt sltu xor srl sra or and mul mulh mulhsu mulhu div divu rem remu " +
	"addi slti sltiu xori ori andi slli srli srai lb lh lw lbu lhu jalr sb sh sw beq bne blt bge bltu bgeu lui auipc jal ecall ebreak"

const regNames = "zero ra sp gp tp t0 t1 t2 s0 s1 a0 a1 a2 a3 a4 a5 a6 a7 s2 s3 s4 s5 s6 s7 s8 s9 s10 s11 t3 t4 t5 t6"

// The parts that the document's last table of chapter 2 gives, place by place as the names; -1 where it gives none.
var (
	partC = []int{51, 51, 51, 51, 51, 51, 51, 51, 51, 51, 51, 51, 51, 51, 51, 51, 51, 51,
		19, 19, 19, 19, 19, 19, 19, 19, 19, 3, 3, 3, 3, 3, 103, 35, 35, 35, 99, 99, 99, 99, 99, 99, 55, 23, 111, 115, 115}
	partF3 = []int{0, 0, 1, 2, 3, 4, 5, 5, 6, 7, 0, 1, 2, 3, 4, 5, 6, 7,
		0, 2, 3, 4, 6, 7, 1, 5, 5, 0, 1, 2, 4, 5, 0, 0, 1, 2, 0, 1, 4, 5, 6, 7, -1, -1, -1, 0, 0}
	partF7 = []int{0, 32, 0, 0, 0, 0, 0, 32, 0, 0, 1, 1, 1, 1, 1, 1, 1, 1}
)

// forms has a letter for each Op, in the order of the numbers.
const forms = "RRRRRRRRRRRRRRRRRR" + "IIIIII" + "HHH" + "IIIII" + "I" + "SSS" + "BBBBBB" + "UU" + "J" + "EE"

func formOf(op int) byte {
	return forms[op-1]
}

// immEdges are the edges of Imm in a form, and some between: of those bits each part of a word gets some alone.
func immEdges(form byte) []int {
	switch form {
	case 'I', 'S':
		return []int{-2048, -2047, -1025, -32, -31, -1, 0, 1, 16, 31, 32, 1024, 2046, 2047}
	case 'H':
		return []int{0, 1, 15, 16, 30, 31}
	case 'B':
		return []int{-4096, -4094, -2050, -2048, -34, -32, -30, -2, 0, 2, 16, 30, 32, 1024, 2046, 2048, 4092, 4094}
	case 'U':
		return []int{0, 1, 256, 524287, 524288, 1048574, 1048575}
	case 'J':
		return []int{-1048576, -1048574, -524288, -4096, -2050, -2048, -2, 0, 2, 1024, 2046, 2048, 4094, 4096, 524288, 1048572, 1048574}
	}
	return []int{0}
}

func usesRd(form byte) bool  { return strings.IndexByte("RIHUJ", form) >= 0 }
func usesRs1(form byte) bool { return strings.IndexByte("RIHSB", form) >= 0 }
func usesRs2(form byte) bool { return strings.IndexByte("RSB", form) >= 0 }

func regEdges(used bool) []int {
	if used {
		return []int{0, 1, 2, 15, 16, 30, 31}
	}
	return []int{0}
}

// wellFormed gives instructions of an Op at the edges of all its fields.
func wellFormed(op int) []impl.Inst {
	var out []impl.Inst
	form := formOf(op)
	for _, rd := range regEdges(usesRd(form)) {
		for _, rs1 := range regEdges(usesRs1(form)) {
			for _, rs2 := range regEdges(usesRs2(form)) {
				for _, imm := range immEdges(form) {
					out = append(out, impl.Inst{Op: op, Rd: rd, Rs1: rs1, Rs2: rs2, Imm: imm})
				}
			}
		}
	}
	return out
}

// wordOf writes the parts as the document's table has them, form by form.
func wordOf(in impl.Inst) int {
	c, f3 := partC[in.Op-1], partF3[in.Op-1]<<12
	rd, rs1, rs2 := in.Rd<<7, in.Rs1<<15, in.Rs2<<20
	imm := in.Imm & 0xffffffff
	switch formOf(in.Op) {
	case 'R':
		return partF7[in.Op-1]<<25 | rs2 | rs1 | f3 | rd | c
	case 'I':
		return imm&0xfff<<20 | rs1 | f3 | rd | c
	case 'H':
		f7 := 0
		if in.Op == impl.OpSrai {
			f7 = 32
		}
		return f7<<25 | imm<<20 | rs1 | f3 | rd | c
	case 'S':
		return imm>>5&0x7f<<25 | rs2 | rs1 | f3 | imm&0x1f<<7 | c
	case 'B':
		return imm>>12&1<<31 | imm>>5&0x3f<<25 | rs2 | rs1 | f3 | imm>>1&0xf<<8 | imm>>11&1<<7 | c
	case 'U':
		return imm<<12 | rd | c
	case 'J':
		return imm>>20&1<<31 | imm>>1&0x3ff<<21 | imm>>11&1<<20 | imm>>12&0xff<<12 | rd | c
	}
	if in.Op == impl.OpEbreak {
		return 1<<20 | c
	}
	return c
}

func TestEachOpThereAndBack(t *testing.T) {
	for op := 1; op <= impl.OpEbreak; op++ {
		for _, in := range wellFormed(op) {
			w, ok := impl.EncodeInst(in)
			if !ok || w != wordOf(in) || !impl.InstOk(in) {
				t.Fatalf("%v: word %08x %v %v, want %08x", in, w, ok, impl.InstOk(in), wordOf(in))
			}
			if back, ok := impl.DecodeInst(w); !ok || back != in {
				t.Fatalf("%08x: %v %v, want %v", w, back, ok, in)
			}
		}
	}
}

func TestWordsOfTheDocument(t *testing.T) {
	for _, c := range []struct {
		in impl.Inst
		w  int
	}{
		{impl.Inst{Op: impl.AluAdd, Rd: 3, Rs1: 1, Rs2: 2}, 0x002081b3},
		{impl.Inst{Op: impl.AluSub, Rd: 3, Rs1: 1, Rs2: 2}, 0x402081b3},
		{impl.Inst{Op: impl.AluMul, Rd: 10, Rs1: 11, Rs2: 12}, 0x02c58533},
		{impl.Inst{Op: impl.OpAddi, Rd: 2, Rs1: 2, Imm: -16}, 0xff010113},
		{impl.Inst{Op: impl.OpSrai, Rd: 5, Rs1: 6, Imm: 31}, 0x41f35293},
		{impl.Inst{Op: impl.OpLw, Rd: 1, Rs1: 2, Imm: 12}, 0x00c12083},
		{impl.Inst{Op: impl.OpSw, Rs1: 2, Rs2: 1, Imm: 12}, 0x00112623},
		{impl.Inst{Op: impl.OpSb, Rs1: 5, Rs2: 11, Imm: -1}, 0xfeb28fa3},
		{impl.Inst{Op: impl.OpBne, Rs1: 10, Imm: -8}, 0xfe051ce3},
		{impl.Inst{Op: impl.OpBgeu, Rs1: 2, Rs2: 5, Imm: 8}, 0x00517463},
		{impl.Inst{Op: impl.OpLui, Rd: 10, Imm: 256}, 0x00100537},
		{impl.Inst{Op: impl.OpJal, Rd: 1, Imm: 2048}, 0x001000ef},
		{impl.Inst{Op: impl.OpJal, Imm: -4}, 0xffdff06f},
		{impl.Inst{Op: impl.OpJalr, Rs1: 1}, 0x00008067},
		{impl.Inst{Op: impl.OpEcall}, 0x00000073},
		{impl.Inst{Op: impl.OpEbreak}, 0x00100073},
	} {
		w, ok := impl.EncodeInst(c.in)
		back, backOk := impl.DecodeInst(c.w)
		if !ok || w != c.w || !backOk || back != c.in {
			t.Errorf("%v: %08x %v, want %08x; back %v %v", c.in, w, ok, c.w, back, backOk)
		}
	}
}

func refused(t *testing.T, in impl.Inst) {
	t.Helper()
	if w, ok := impl.EncodeInst(in); ok || w != 0 || impl.InstOk(in) {
		t.Errorf("%v is not well formed: %08x %v %v", in, w, ok, impl.InstOk(in))
	}
}

// badRegs are no registers; 1 and 31 are some, but stand in no field that is not used.
func badRegs(used bool) []int {
	bad := []int{-1, -32, 32, 33, 64, 1 << 32, math.MaxInt, math.MinInt}
	if !used {
		bad = append(bad, 1, 31)
	}
	return bad
}

func TestRegistersOutOfPlace(t *testing.T) {
	for op := 1; op <= impl.OpEbreak; op++ {
		form := formOf(op)
		for _, r := range badRegs(usesRd(form)) {
			refused(t, impl.Inst{Op: op, Rd: r})
		}
		for _, r := range badRegs(usesRs1(form)) {
			refused(t, impl.Inst{Op: op, Rs1: r})
		}
		for _, r := range badRegs(usesRs2(form)) {
			refused(t, impl.Inst{Op: op, Rs2: r})
		}
	}
}

func badImms(form byte) []int {
	far := []int{math.MaxInt, math.MaxInt - 1, math.MinInt, math.MinInt + 1, 1 << 32, -1 << 32}
	switch form {
	case 'I', 'S':
		return append(far, -2049, 2048, 4095, 4096, -4096, 4294967295)
	case 'H':
		return append(far, -1, 32, 33, 63, -32)
	case 'B':
		return append(far, -4098, -4097, -4095, -3, -1, 1, 3, 2047, 4093, 4095, 4096, 4097, 8192)
	case 'U':
		return append(far, -1, 1048576, 1048577, -524288, -1048576)
	case 'J':
		return append(far, -1048578, -1048577, -1048575, -3, -1, 1, 3, 1048573, 1048575, 1048576, 1048577)
	}
	return append(far, -1, 1, 2, -2, 31)
}

func TestImmOutOfRange(t *testing.T) {
	for op := 1; op <= impl.OpEbreak; op++ {
		for _, imm := range badImms(formOf(op)) {
			refused(t, impl.Inst{Op: op, Imm: imm})
		}
	}
}

func TestNoSuchOp(t *testing.T) {
	for _, op := range []int{0, -1, -47, 48, 49, 1 << 32, math.MaxInt, math.MinInt} {
		refused(t, impl.Inst{Op: op})
		refused(t, impl.Inst{Op: op, Rd: 1, Rs1: 1, Rs2: 1, Imm: 2})
	}
}

func refusedWord(t *testing.T, w int) {
	t.Helper()
	if in, ok := impl.DecodeInst(w); ok || in != (impl.Inst{}) {
		t.Errorf("%08x is no instruction: %v %v", w, in, ok)
	}
}

func TestWordsThatAreNoInstructions(t *testing.T) {
	for _, w := range []int{
		0, 1, 0x13 - 1, 0x7f, 0xffffffff, 0x80000000, // no such c
		0x802081b3, 0x042081b3, 0x402091b3, 0x422081b3, // f7 of no operation
		0x00003003, 0x00006003, 0x00007003, // no load of that size
		0x00003023, 0x00004023, 0x00007023, // no store of that size
		0x00002063, 0x00003063, // no such branch
		0x00001067, 0x00007067, // f3 of jalr
		0x02001013, 0x40001013, 0x02005013, 0x42005013, 0x80005013, // a shift by 32 or more, or by another f7
		0x00200073, 0x10000073, 0x00100173, 0x000080f3, 0x00008073, 0x00001073, 0x000000f3, 0x02100073, 0x80000073, // ecall's bits
	} {
		refusedWord(t, w)
	}
}

func TestNumbersThatAreNoWords(t *testing.T) {
	for op := 1; op <= impl.OpEbreak; op++ {
		w := wordOf(impl.Inst{Op: op})
		for _, off := range []int{1 << 32, 1 << 33, 1 << 40, -1 << 32, -1 << 33, math.MinInt} {
			refusedWord(t, w+off)
		}
	}
	refusedWord(t, -1)
	refusedWord(t, math.MaxInt)
	refusedWord(t, math.MinInt)
	refusedWord(t, 0x02c58533-1<<32)
	refusedWord(t, 0xfe051ce3-1<<32)
}

// takes says by the document's tables alone whether some instruction has the word.
func takes(w int) bool {
	for op := 1; op <= impl.OpEbreak; op++ {
		if w&0x7f != partC[op-1] {
			continue
		}
		f3, f7 := w>>12&7 == partF3[op-1], w>>25
		switch formOf(op) {
		case 'R':
			f3 = f3 && f7 == partF7[op-1]
		case 'H':
			f3 = f3 && (f7 == 0 && op != impl.OpSrai || f7 == 32 && op == impl.OpSrai)
		case 'U', 'J':
			f3 = true
		case 'E':
			f3 = w == wordOf(impl.Inst{Op: op})
		}
		if f3 {
			return true
		}
	}
	return false
}

func checkWord(t *testing.T, w int) {
	t.Helper()
	in, ok := impl.DecodeInst(w)
	if ok != takes(w) {
		t.Fatalf("%08x: %v %v", w, in, ok)
	}
	back, backOk := impl.EncodeInst(in)
	if ok && (!backOk || back != w || !impl.InstOk(in)) || !ok && in != (impl.Inst{}) {
		t.Fatalf("%08x: %v gives %08x %v", w, in, back, backOk)
	}
}

// Every c, f3 and f7, with other bits all 0, all 1 and mixed, and each word that differs from an instruction's in one bit.
func TestDecodeTakesNoOtherWord(t *testing.T) {
	for f7 := range 128 {
		for f3 := range 8 {
			for c := range 128 {
				for _, rest := range []int{0, 0x1ff8f80, 0x0a50a80} {
					checkWord(t, f7<<25|f3<<12|c|rest)
				}
			}
		}
	}
	for op := 1; op <= impl.OpEbreak; op++ {
		for _, in := range []impl.Inst{wellFormed(op)[0], wellFormed(op)[len(wellFormed(op))-1]} {
			for bit := range 32 {
				checkWord(t, wordOf(in)^1<<bit)
			}
		}
	}
}

// The words are scattered by a rule, so that each run tries the same ones.
func TestDecodeOfManyWords(t *testing.T) {
	state := uint64(2)
	for range 100000 {
		state = state*6364136223846793005 + 1442695040888963407
		w := int(state >> 32)
		checkWord(t, w)
		checkWord(t, w&^0x7f|partC[w%len(partC)])
	}
}

func TestOpNames(t *testing.T) {
	names := strings.Fields(opNames)
	if len(names) != impl.OpEbreak {
		t.Fatalf("%d names", len(names))
	}
	for i, name := range names {
		if impl.OpName(i+1) != name || impl.OpNumber(name) != i+1 {
			t.Errorf("op %d: %q, and %q is %d", i+1, impl.OpName(i+1), name, impl.OpNumber(name))
		}
	}
	for _, op := range []int{0, -1, 48, 1 << 32, math.MaxInt, math.MinInt} {
		if impl.OpName(op) != "" {
			t.Errorf("op %d: %q", op, impl.OpName(op))
		}
	}
}

func TestTextsThatAreNoOp(t *testing.T) {
	texts := []string{"", " ", "nop", "ret", "li", "zero", "a", "ad", "x1", "\x00", "mulhsux", "ebreak2", "ecallx", strings.Repeat("add", 1000)}
	for _, name := range strings.Fields(opNames) {
		texts = append(texts, strings.ToUpper(name), strings.ToUpper(name[:1])+name[1:], name+" ", " "+name, name+"\x00", "\x00"+name, name+".", name+name)
	}
	for _, text := range texts {
		if n := impl.OpNumber(text); n != 0 {
			t.Errorf("%q is op %d", text, n)
		}
	}
}

func TestRegisterNames(t *testing.T) {
	for r, name := range strings.Fields(regNames) {
		if impl.RegName(r) != name || impl.RegNumber(name) != r || impl.RegNumber("x"+strconv.Itoa(r)) != r {
			t.Errorf("register %d: %q, and %q is %d, its x name %d", r, impl.RegName(r), name, impl.RegNumber(name), impl.RegNumber("x"+strconv.Itoa(r)))
		}
	}
	for _, r := range []int{-1, 32, 33, 1 << 32, math.MaxInt, math.MinInt} {
		if impl.RegName(r) != "" {
			t.Errorf("register %d: %q", r, impl.RegName(r))
		}
	}
}

func TestTextsThatAreNoRegister(t *testing.T) {
	texts := []string{
		"", " ", "x", "x32", "x33", "x99", "x100", "x01", "x00", "x031", "x-1", "x+1", "x-0", "x1x", "x 1", "x0x1", "xx", "X1", "X0", "x１",
		"fp", "pc", "a8", "s12", "t7", "a", "s", "t", "a00", "t03", "s01", "0", "1", "31", "\x00", "zer", "zeroo", "add", strings.Repeat("x1", 1000),
		"x18446744073709551617", "x4294967297",
	}
	for r, name := range strings.Fields(regNames) {
		number := strconv.Itoa(r)
		texts = append(texts, strings.ToUpper(name), strings.ToUpper(name[:1])+name[1:], name+" ", " "+name, name+"\x00", "\x00"+name, "X"+number, "x0"+number, "x"+number+"\x00")
	}
	for _, text := range texts {
		if n := impl.RegNumber(text); n != -1 {
			t.Errorf("%q is register %d", text, n)
		}
	}
}
