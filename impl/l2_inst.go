package impl

import "strconv"

const OpAddi = 19
const OpSlti = 20
const OpSltiu = 21
const OpXori = 22
const OpOri = 23
const OpAndi = 24
const OpSlli = 25
const OpSrli = 26
const OpSrai = 27
const OpLb = 28
const OpLh = 29
const OpLw = 30
const OpLbu = 31
const OpLhu = 32
const OpJalr = 33
const OpSb = 34
const OpSh = 35
const OpSw = 36
const OpBeq = 37
const OpBne = 38
const OpBlt = 39
const OpBge = 40
const OpBltu = 41
const OpBgeu = 42
const OpLui = 43
const OpAuipc = 44
const OpJal = 45
const OpEcall = 46
const OpEbreak = 47

// Inst is described in the document.
type Inst struct {
	Op  int
	Rd  int
	Rs1 int
	Rs2 int
	Imm int
}

// The forms of instructions; 0 is none.
const (
	formR = iota + 1
	formI
	formH
	formS
	formB
	formU
	formJ
	formE
)

// Where the parts of a word that have one place in all forms begin.
const (
	rdAt  = 7
	f3At  = 12
	rs1At = 15
	rs2At = 20
	f7At  = 25
)

// fixedParts are what the Op alone says of a word: c, f3, f7 and, in form E, what stands where others have Rs2.
type fixedParts [4]byte

// instRow is all that tells an Op from the others.
type instRow struct {
	name  string
	form  int
	fixed fixedParts
}

// instTable has the row of each Op at its number; row 0 is none.
func instTable() [OpEbreak + 1]instRow {
	return [OpEbreak + 1]instRow{
		AluAdd:    {"add", formR, fixedParts{51, 0, 0}},
		AluSub:    {"sub", formR, fixedParts{51, 0, 32}},
		AluSll:    {"sll", formR, fixedParts{51, 1, 0}},
		AluSlt:    {"slt", formR, fixedParts{51, 2, 0}},
		AluSltu:   {"sltu", formR, fixedParts{51, 3, 0}},
		AluXor:    {"xor", formR, fixedParts{51, 4, 0}},
		AluSrl:    {"srl", formR, fixedParts{51, 5, 0}},
		AluSra:    {"sra", formR, fixedParts{51, 5, 32}},
		AluOr:     {"or", formR, fixedParts{51, 6, 0}},
		AluAnd:    {"and", formR, fixedParts{51, 7, 0}},
		AluMul:    {"mul", formR, fixedParts{51, 0, 1}},
		AluMulh:   {"mulh", formR, fixedParts{51, 1, 1}},
		AluMulhsu: {"mulhsu", formR, fixedParts{51, 2, 1}},
		AluMulhu:  {"mulhu", formR, fixedParts{51, 3, 1}},
		AluDiv:    {"div", formR, fixedParts{51, 4, 1}},
		AluDivu:   {"divu", formR, fixedParts{51, 5, 1}},
		AluRem:    {"rem", formR, fixedParts{51, 6, 1}},
		AluRemu:   {"remu", formR, fixedParts{51, 7, 1}},
		OpAddi:    {"addi", formI, fixedParts{19, 0}},
		OpSlti:    {"slti", formI, fixedParts{19, 2}},
		OpSltiu:   {"sltiu", formI, fixedParts{19, 3}},
		OpXori:    {"xori", formI, fixedParts{19, 4}},
		OpOri:     {"ori", formI, fixedParts{19, 6}},
		OpAndi:    {"andi", formI, fixedParts{19, 7}},
		OpSlli:    {"slli", formH, fixedParts{19, 1, 0}},
		OpSrli:    {"srli", formH, fixedParts{19, 5, 0}},
		OpSrai:    {"srai", formH, fixedParts{19, 5, 32}},
		OpLb:      {"lb", formI, fixedParts{3, 0}},
		OpLh:      {"lh", formI, fixedParts{3, 1}},
		OpLw:      {"lw", formI, fixedParts{3, 2}},
		OpLbu:     {"lbu", formI, fixedParts{3, 4}},
		OpLhu:     {"lhu", formI, fixedParts{3, 5}},
		OpJalr:    {"jalr", formI, fixedParts{103, 0}},
		OpSb:      {"sb", formS, fixedParts{35, 0}},
		OpSh:      {"sh", formS, fixedParts{35, 1}},
		OpSw:      {"sw", formS, fixedParts{35, 2}},
		OpBeq:     {"beq", formB, fixedParts{99, 0}},
		OpBne:     {"bne", formB, fixedParts{99, 1}},
		OpBlt:     {"blt", formB, fixedParts{99, 4}},
		OpBge:     {"bge", formB, fixedParts{99, 5}},
		OpBltu:    {"bltu", formB, fixedParts{99, 6}},
		OpBgeu:    {"bgeu", formB, fixedParts{99, 7}},
		OpLui:     {"lui", formU, fixedParts{55}},
		OpAuipc:   {"auipc", formU, fixedParts{23}},
		OpJal:     {"jal", formJ, fixedParts{111}},
		OpEcall:   {"ecall", formE, fixedParts{115, 0, 0, 0}},
		OpEbreak:  {"ebreak", formE, fixedParts{115, 0, 0, 1}},
	}
}

// rowOf gives the row of an Op, and false for a number that is none.
func rowOf(op int) (instRow, bool) {
	if op < AluAdd || op > OpEbreak {
		return instRow{}, false
	}
	return instTable()[op], true
}

// immPart says that width bits of Imm, the lowest of them bit from, stand at a place of the word.
type immPart struct {
	from  int
	width int
	at    int
}

// formRule says which fields a form uses, what Imm may be, and where it stands; a part of no width is none.
type formRule struct {
	rd    bool
	rs1   bool
	rs2   bool
	low   int
	high  int
	step  int
	parts [4]immPart
}

func ruleOf(form int) formRule {
	switch form {
	case formR:
		return formRule{rd: true, rs1: true, rs2: true, step: 1}
	case formI:
		return formRule{rd: true, rs1: true, low: -2048, high: 2047, step: 1, parts: [4]immPart{{0, 12, 20}}}
	case formH:
		return formRule{rd: true, rs1: true, high: 31, step: 1, parts: [4]immPart{{0, 5, 20}}}
	case formS:
		return formRule{rs1: true, rs2: true, low: -2048, high: 2047, step: 1, parts: [4]immPart{{5, 7, 25}, {0, 5, 7}}}
	case formB:
		return formRule{rs1: true, rs2: true, low: -4096, high: 4094, step: 2,
			parts: [4]immPart{{12, 1, 31}, {5, 6, 25}, {1, 4, 8}, {11, 1, 7}}}
	case formU:
		return formRule{rd: true, high: 1048575, step: 1, parts: [4]immPart{{0, 20, 12}}}
	case formJ:
		return formRule{rd: true, low: -1048576, high: 1048574, step: 2,
			parts: [4]immPart{{20, 1, 31}, {1, 10, 21}, {11, 1, 20}, {12, 8, 12}}}
	}
	return formRule{step: 1}
}

// InstOk says whether an instruction is well formed.
func InstOk(in Inst) bool {
	row, ok := rowOf(in.Op)
	if !ok {
		return false
	}
	rule := ruleOf(row.form)
	return regOk(in.Rd, rule.rd) && regOk(in.Rs1, rule.rs1) && regOk(in.Rs2, rule.rs2) && immOk(in.Imm, rule)
}

func regOk(r int, used bool) bool {
	return r == 0 || used && r >= 0 && r <= 31
}

func immOk(imm int, rule formRule) bool {
	return imm >= rule.low && imm <= rule.high && imm%rule.step == 0
}

// EncodeInst writes an instruction.
func EncodeInst(in Inst) (int, bool) {
	if !InstOk(in) {
		return 0, false
	}
	row, _ := rowOf(in.Op)
	w := fixedWord(row.fixed) + writeImm(in.Imm, ruleOf(row.form))
	return w + in.Rd<<rdAt + in.Rs1<<rs1At + in.Rs2<<rs2At, true
}

func fixedWord(fixed fixedParts) int {
	return int(fixed[0]) + int(fixed[1])<<f3At + int(fixed[2])<<f7At + int(fixed[3])<<rs2At
}

// bitsOf gives width bits of n, the lowest of them bit from; of a number below 0 they are those of its word.
func bitsOf(n int, from int, width int) int {
	return n >> from & (1<<width - 1)
}

func writeImm(imm int, rule formRule) int {
	w := 0
	for _, part := range rule.parts {
		w += bitsOf(imm, part.from, part.width) << part.at
	}
	return w
}

func readImm(w int, rule formRule) int {
	imm := 0
	for _, part := range rule.parts {
		imm += bitsOf(w, part.at, part.width) << part.from
	}
	if imm > rule.high {
		imm -= rule.high + rule.step - rule.low
	}
	return imm
}

// DecodeInst reads an instruction.
func DecodeInst(w int) (Inst, bool) {
	op := opOfWord(w)
	if op == 0 {
		return Inst{}, false
	}
	row, _ := rowOf(op)
	in := readFields(w, ruleOf(row.form))
	in.Op = op
	// Bits that the form gives no meaning, and those of a number that is no word, are lost on the way back.
	if back, ok := EncodeInst(in); !ok || back != w {
		return Inst{}, false
	}
	return in, true
}

// opOfWord finds the Op whose fixed parts are those of the word, 0 when there is none.
func opOfWord(w int) int {
	for op, row := range instTable() {
		if op > 0 && row.fixed == readFixed(w, row.form) {
			return op
		}
	}
	return 0
}

// readFixed leaves out the parts that belong to Imm in that form.
func readFixed(w int, form int) fixedParts {
	fixed := fixedParts{byte(bitsOf(w, 0, 7))}
	if form != formU && form != formJ {
		fixed[1] = byte(bitsOf(w, f3At, 3))
	}
	if form == formR || form == formH || form == formE {
		fixed[2] = byte(bitsOf(w, f7At, 7))
	}
	if form == formE {
		fixed[3] = byte(bitsOf(w, rs2At, 5))
	}
	return fixed
}

func readFields(w int, rule formRule) Inst {
	in := Inst{Imm: readImm(w, rule)}
	if rule.rd {
		in.Rd = bitsOf(w, rdAt, 5)
	}
	if rule.rs1 {
		in.Rs1 = bitsOf(w, rs1At, 5)
	}
	if rule.rs2 {
		in.Rs2 = bitsOf(w, rs2At, 5)
	}
	return in
}

// nameKey is a short name as a key of a map: its length, so that a byte 0 in a text is no end of it, and its bytes.
type nameKey [7]byte

// keyOf gives the key of a text; a text too long to be a name has that of the empty one, which is no name either.
func keyOf(text string) nameKey {
	key := nameKey{}
	if len(text) < len(key) {
		key[0] = byte(len(text))
		copy(key[1:], text)
	}
	return key
}

// OpName gives a name.
func OpName(op int) string {
	row, _ := rowOf(op)
	return row.name
}

// OpNumber gives the number of a name.
func OpNumber(name string) int {
	return opNumbers()[keyOf(name)]
}

// opNumbers is made anew for each asker, who may keep it for many names.
func opNumbers() map[nameKey]int {
	numbers := map[nameKey]int{}
	for op, row := range instTable() {
		numbers[keyOf(row.name)] = op
	}
	return numbers
}

var regNames = [32]string{
	"zero", "ra", "sp", "gp", "tp", "t0", "t1", "t2", "s0", "s1", "a0", "a1", "a2", "a3", "a4", "a5",
	"a6", "a7", "s2", "s3", "s4", "s5", "s6", "s7", "s8", "s9", "s10", "s11", "t3", "t4", "t5", "t6",
}

// RegName gives a register's name.
func RegName(r int) string {
	if r < 0 || r > 31 {
		return ""
	}
	return regNames[r]
}

// RegNumber gives a register's number.
func RegNumber(name string) int {
	if r, ok := regNumbers()[keyOf(name)]; ok {
		return r
	}
	return -1
}

// regNumbers holds both names of each register, and is made anew for each asker as opNumbers is.
func regNumbers() map[nameKey]int {
	numbers := map[nameKey]int{}
	for r := range 32 {
		numbers[keyOf(RegName(r))] = r
		numbers[keyOf("x"+strconv.Itoa(r))] = r
	}
	return numbers
}
