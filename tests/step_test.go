package tests

import (
	"slices"
	"testing"

	"loop.example/s01681/impl"
)

const codeAt = impl.CodeBase

// stepFrom does one step and holds it against the machine that is wanted, which is the one before with this change.
func stepFrom(t *testing.T, name string, m impl.Machine, change func(*impl.Machine)) impl.Machine {
	t.Helper()
	want := roomyMachine(m)
	want.Steps++
	change(&want)
	got := untouched(t, name, m, impl.StepMachine)
	if !sameMachine(got, want) {
		t.Errorf("%s: gives\n%v, want\n%v", name, got, want)
	}
	if !impl.MachineOk(got) {
		t.Errorf("%s: gives a machine that is not valid", name)
	}
	return got
}

func faults(code int) func(*impl.Machine) {
	return func(m *impl.Machine) { m.End, m.Value = impl.EndFault, code }
}

// sets is what an instruction does that writes a register and goes on.
func sets(rd, w int) func(*impl.Machine) {
	return func(m *impl.Machine) {
		m.Pc += 4
		m.Regs[rd] = w
	}
}

func goesTo(pc int) func(*impl.Machine) {
	return func(m *impl.Machine) { m.Pc = pc }
}

// between puts an instruction between two others, so that Pc may go both ways, with two registers set.
func between(in impl.Inst, x6, x7 int) impl.Machine {
	m := smallMachine(impl.Inst{Op: impl.OpEbreak}, in, impl.Inst{Op: impl.OpEbreak})
	m.Pc = codeAt + 4
	m.Regs[6], m.Regs[7] = x6, x7
	return m
}

func TestOperationsOnRegisters(t *testing.T) {
	for _, c := range []struct{ op, a, b, w int }{
		{impl.AluAdd, 4294967295, 3, 2}, {impl.AluSub, 3, 5, 4294967294}, {impl.AluSll, 3, 63, 2147483648},
		{impl.AluSlt, 4294967295, 0, 1}, {impl.AluSltu, 4294967295, 0, 0}, {impl.AluXor, 12, 10, 6},
		{impl.AluSrl, 4294967288, 33, 2147483644}, {impl.AluSra, 4294967288, 33, 4294967292}, {impl.AluOr, 12, 10, 14},
		{impl.AluAnd, 12, 10, 8}, {impl.AluMul, 65537, 65537, 131073}, {impl.AluMulh, 4294967295, 5, 4294967295},
		{impl.AluMulhsu, 4294967295, 4294967295, 4294967295}, {impl.AluMulhu, 4294967295, 5, 4},
		{impl.AluDiv, 4294967289, 2, 4294967293}, {impl.AluDivu, 4294967289, 2, 2147483644},
		{impl.AluRem, 4294967289, 2, 4294967295}, {impl.AluRemu, 4294967289, 2, 1}, {impl.AluDiv, 5, 0, 4294967295}, {impl.AluRem, 5, 0, 5},
	} {
		in := impl.Inst{Op: c.op, Rd: 5, Rs1: 6, Rs2: 7}
		stepFrom(t, impl.OpName(c.op), between(in, c.a, c.b), sets(5, c.w))
	}
}

func TestOperationsWithImm(t *testing.T) {
	for _, c := range []struct{ op, a, imm, w int }{
		{impl.OpAddi, 1, -2, 4294967295}, {impl.OpAddi, 4294967295, 2047, 2046}, {impl.OpSlti, 4294967295, 0, 1}, {impl.OpSlti, 0, -1, 0},
		{impl.OpSltiu, 4294967294, -1, 1}, {impl.OpSltiu, 5, 5, 0}, {impl.OpXori, 5, -1, 4294967290}, {impl.OpOri, 5, -2048, 4294965253},
		{impl.OpAndi, 4294967295, -2048, 4294965248}, {impl.OpSlli, 3, 31, 2147483648}, {impl.OpSrli, 4294967288, 1, 2147483644},
		{impl.OpSrai, 4294967288, 1, 4294967292}, {impl.OpSrai, 4294967288, 0, 4294967288},
	} {
		in := impl.Inst{Op: c.op, Rd: 5, Rs1: 6, Imm: c.imm}
		stepFrom(t, impl.OpName(c.op), between(in, c.a, 1), sets(5, c.w))
	}
}

func TestLoadSteps(t *testing.T) {
	for _, c := range []struct{ op, at, imm, w int }{
		{impl.OpLb, dataAt, 11, 0xffffff8c}, {impl.OpLbu, dataAt, 11, 0x8c}, {impl.OpLh, dataAt + 12, -2, 0xffff8c8b},
		{impl.OpLhu, dataAt + 12, -2, 0x8c8b}, {impl.OpLw, dataAt, 8, 0x8c8b8a89}, {impl.OpLw, stackEnd, -4, 0x9396999c},
	} {
		in := impl.Inst{Op: c.op, Rd: 5, Rs1: 6, Imm: c.imm}
		stepFrom(t, impl.OpName(c.op), between(in, c.at, 1), sets(5, c.w))
	}
	for _, c := range []struct{ op, at, imm, fault int }{
		{impl.OpLb, dataAt, 12, impl.FaultMemory}, {impl.OpLbu, dataAt, -1, impl.FaultMemory}, {impl.OpLh, dataAt, 1, impl.FaultAlign},
		{impl.OpLhu, dataAt, 12, impl.FaultMemory}, {impl.OpLhu, stackEnd, 1, impl.FaultAlign}, {impl.OpLw, stackEnd, 0, impl.FaultMemory},
		{impl.OpLw, dataAt, 2, impl.FaultAlign}, {impl.OpLw, codeAt, 0, impl.FaultMemory}, {impl.OpLw, 0, -4, impl.FaultMemory},
		{impl.OpLw, 4294967295, 5, impl.FaultMemory}, {impl.OpLw, 4294967295, 2, impl.FaultAlign}, {impl.OpLw, 0, -1, impl.FaultAlign},
	} {
		in := impl.Inst{Op: c.op, Rd: 5, Rs1: 6, Imm: c.imm}
		stepFrom(t, impl.OpName(c.op)+" that faults", between(in, c.at, 1), faults(c.fault))
	}
	in := impl.Inst{Op: impl.OpLw, Rd: 6, Rs1: 6, Imm: 4}
	stepFrom(t, "lw into its own base", between(in, dataAt, 1), sets(6, 0x88878685))
}

func TestStoreSteps(t *testing.T) {
	put := func(list func(*impl.Machine) []byte, from int, bytes ...byte) func(*impl.Machine) {
		return func(m *impl.Machine) {
			m.Pc += 4
			copy(list(m)[from:], bytes)
		}
	}
	data := func(m *impl.Machine) []byte { return m.Data }
	stack := func(m *impl.Machine) []byte { return m.Stack }
	for _, c := range []struct {
		op, at, imm int
		change      func(*impl.Machine)
	}{
		{impl.OpSb, dataAt + 12, -1, put(data, 11, 0x21)}, {impl.OpSb, stackEnd, -32, put(stack, 0, 0x21)},
		{impl.OpSh, dataAt, 10, put(data, 10, 0x21, 0x43)}, {impl.OpSh, stackEnd, -2, put(stack, 30, 0x21, 0x43)},
		{impl.OpSw, dataAt, 0, put(data, 0, 0x21, 0x43, 0x65, 0x87)}, {impl.OpSw, stackEnd, -4, put(stack, 28, 0x21, 0x43, 0x65, 0x87)},
		{impl.OpSb, dataAt, 12, faults(impl.FaultMemory)}, {impl.OpSb, stackEnd, -33, faults(impl.FaultMemory)},
		{impl.OpSh, dataAt, 11, faults(impl.FaultAlign)}, {impl.OpSh, dataAt, -2, faults(impl.FaultMemory)},
		{impl.OpSw, dataAt, 6, faults(impl.FaultAlign)}, {impl.OpSw, stackEnd, 0, faults(impl.FaultMemory)},
		{impl.OpSw, codeAt, 4, faults(impl.FaultMemory)}, {impl.OpSw, 4294967295, 1, faults(impl.FaultMemory)},
	} {
		in := impl.Inst{Op: c.op, Rs1: 6, Rs2: 7, Imm: c.imm}
		stepFrom(t, impl.OpName(c.op), between(in, c.at, 0x87654321), c.change)
	}
	stepFrom(t, "sw of register 0", between(impl.Inst{Op: impl.OpSw, Rs1: 6}, dataAt, 1), put(data, 0, 0, 0, 0, 0))
}

func TestBranchesBothWays(t *testing.T) {
	const low, high = 1, 4294967295
	for _, c := range []struct {
		op, a, b int
		taken    bool
	}{
		{impl.OpBeq, 5, 5, true}, {impl.OpBeq, 5, 4294967291, false}, {impl.OpBne, 5, 4, true}, {impl.OpBne, high, high, false},
		{impl.OpBlt, high, low, true}, {impl.OpBlt, low, high, false}, {impl.OpBlt, low, low, false}, {impl.OpBlt, 2147483648, 2147483647, true},
		{impl.OpBge, low, high, true}, {impl.OpBge, high, low, false}, {impl.OpBge, high, high, true},
		{impl.OpBltu, low, high, true}, {impl.OpBltu, high, low, false}, {impl.OpBltu, high, high, false},
		{impl.OpBgeu, high, low, true}, {impl.OpBgeu, low, high, false}, {impl.OpBgeu, low, low, true}, {impl.OpBgeu, 2147483648, 2147483647, true},
	} {
		for _, imm := range []int{-4096, -4, 0, 2, 4, 8, 4094} {
			m := between(impl.Inst{Op: c.op, Rs1: 6, Rs2: 7, Imm: imm}, c.a, c.b)
			to := m.Pc + 4
			if c.taken {
				to = m.Pc + imm
			}
			stepFrom(t, impl.OpName(c.op), m, goesTo(to))
		}
	}
}

func TestJumps(t *testing.T) {
	both := func(rd, w, pc int) func(*impl.Machine) {
		return func(m *impl.Machine) { m.Pc, m.Regs[rd] = pc, w }
	}
	back := codeAt + 8
	for _, imm := range []int{-1048576, -4, 0, 2, 4, 1048574} {
		m := between(impl.Inst{Op: impl.OpJal, Rd: 5, Imm: imm}, 1, 2)
		stepFrom(t, "jal", m, both(5, back, impl.Word(codeAt+4+imm)))
	}
	for _, c := range []struct{ rd, from, imm, pc int }{
		{5, codeAt, 0, codeAt}, {5, codeAt, 9, codeAt + 8}, {5, codeAt, -3, codeAt - 4}, {6, codeAt + 8, -8, codeAt}, {6, codeAt, 5, codeAt + 4},
		{5, 4294967295, 1, 0}, {5, 4294967295, 2, 0}, {5, 0, -1, 4294967294}, {5, 1, -4, 4294967292}, {6, 4294967295, 0, 4294967294}, {5, 7, 0, 6},
	} {
		m := between(impl.Inst{Op: impl.OpJalr, Rd: c.rd, Rs1: 6, Imm: c.imm}, c.from, 2)
		stepFrom(t, "jalr", m, both(c.rd, back, c.pc))
	}
}

func TestUpperImm(t *testing.T) {
	for _, imm := range []int{0, 1, 524287, 524288, 1048575} {
		stepFrom(t, "lui", between(impl.Inst{Op: impl.OpLui, Rd: 5, Imm: imm}, 1, 2), sets(5, imm*4096))
		sum := (codeAt + 4 + imm*4096) % (1 << 32)
		stepFrom(t, "auipc", between(impl.Inst{Op: impl.OpAuipc, Rd: 5, Imm: imm}, 1, 2), sets(5, sum))
	}
	stepFrom(t, "auipc wraps", between(impl.Inst{Op: impl.OpAuipc, Rd: 5, Imm: 1048575}, 1, 2), sets(5, 61444))
}

// Each Op that has an Rd, with register 0 as Rd: whatever comes of it is not kept.
func TestRegisterZeroIsNotWritten(t *testing.T) {
	for op := 1; op <= impl.OpEbreak; op++ {
		if !usesRd(formOf(op)) {
			continue
		}
		in := impl.Inst{Op: op}
		if usesRs1(formOf(op)) {
			in.Rs1 = 6
		}
		if usesRs2(formOf(op)) {
			in.Rs2 = 7
		}
		to := codeAt + 8
		from := dataAt
		if op == impl.OpJalr {
			from, to = codeAt+12, codeAt+12
		}
		if op == impl.OpJal {
			to = codeAt + 4
		}
		stepFrom(t, impl.OpName(op)+" of register 0", between(in, from, 3), goesTo(to))
	}
	in := impl.Inst{Op: impl.OpAddi, Rd: 0, Imm: 5}
	stepFrom(t, "addi of register 0", between(in, 1, 1), goesTo(codeAt+8))
	load := impl.Inst{Op: impl.OpLw, Rd: 0, Rs1: 6}
	stepFrom(t, "lw of register 0 that faults", between(load, stackEnd, 1), faults(impl.FaultMemory))
}

func ecallMachine(number, x10 int) impl.Machine {
	m := between(impl.Inst{Op: impl.OpEcall}, 1, 2)
	m.Regs[17], m.Regs[10] = number, x10
	return m
}

func TestCalls(t *testing.T) {
	for _, x10 := range []int{0, 65, 255, 256 + 65, 4294967295} {
		stepFrom(t, "put", ecallMachine(1, x10), func(m *impl.Machine) {
			m.Pc += 4
			m.Out = append(m.Out, byte(x10%256))
		})
		stepFrom(t, "exit", ecallMachine(3, x10), func(m *impl.Machine) { m.End, m.Value = impl.EndExit, x10 })
		stepFrom(t, "over", ecallMachine(4, x10), func(m *impl.Machine) { m.End, m.Value = impl.EndStack, 0 })
	}
	got := stepFrom(t, "get", ecallMachine(2, 5), func(m *impl.Machine) { m.Pc, m.Regs[10], m.In = m.Pc+4, 200, []byte{7} })
	got.Pc -= 4
	got = stepFrom(t, "get the last", got, func(m *impl.Machine) { m.Pc, m.Regs[10], m.In = m.Pc+4, 7, nil })
	got.Pc -= 4
	stepFrom(t, "get of nothing", got, func(m *impl.Machine) { m.Pc, m.Regs[10] = m.Pc+4, 4294967295 })
	for _, number := range []int{0, 5, 6, 93, 257, 2147483648, 4294967295} {
		stepFrom(t, "no call", ecallMachine(number, 65), faults(impl.FaultCall))
	}
	stepFrom(t, "ebreak", between(impl.Inst{Op: impl.OpEbreak}, 1, 2), faults(impl.FaultCall))
	broken := between(impl.Inst{Op: impl.OpEbreak}, 1, 2)
	broken.Regs[17] = 3
	stepFrom(t, "ebreak with a call's number", broken, faults(impl.FaultCall))
}

// Value may be any word while a machine goes on; a step that does not end it leaves it.
func TestValueThatWasThere(t *testing.T) {
	m := between(impl.Inst{Op: impl.OpAddi, Rd: 5, Imm: 1}, 1, 2)
	m.Value = 77
	stepFrom(t, "a step", m, sets(5, 1))
	over := ecallMachine(4, 65)
	over.Value = 77
	stepFrom(t, "over", over, func(m *impl.Machine) { m.End, m.Value = impl.EndStack, 0 })
}

func TestOutThatIsFull(t *testing.T) {
	m := ecallMachine(1, 66)
	m.Out = make([]byte, impl.MaxOut-1)
	got := stepFrom(t, "the last place", m, func(m *impl.Machine) {
		m.Pc += 4
		m.Out = append(m.Out, 66)
	})
	got.Pc -= 4
	stepFrom(t, "no place", got, faults(impl.FaultOut))
	m.Out = make([]byte, impl.MaxOut)
	m.Regs[17] = 3
	stepFrom(t, "exit with Out full", m, func(m *impl.Machine) { m.End, m.Value = impl.EndExit, 66 })
}

func TestPcThatIsNone(t *testing.T) {
	for _, pc := range []int{0, 1, 4, codeAt - 4, codeAt - 1, codeAt + 1, codeAt + 2, codeAt + 3, codeAt + 6, codeAt + 11, codeAt + 12, dataAt, 4294967292, 4294967295} {
		m := between(impl.Inst{Op: impl.OpAddi, Rd: 5}, 1, 2)
		m.Pc = pc
		stepFrom(t, "Pc", m, faults(impl.FaultPc))
	}
}

// An instruction that Pc does not name whole does nothing, whatever it is.
func TestEachOpBesidePc(t *testing.T) {
	for op := 1; op <= impl.OpEbreak; op++ {
		m := between(wellFormed(op)[0], dataAt, 3)
		m.Pc += 2
		stepFrom(t, impl.OpName(op)+" with Pc within it", m, faults(impl.FaultPc))
		m.Code, m.Pc = m.Code[:2], codeAt+8
		stepFrom(t, impl.OpName(op)+" in front of Pc", m, faults(impl.FaultPc))
	}
}

// A jump out of Code is done, and the fault is that of the step behind it.
func TestJumpsOutOfCode(t *testing.T) {
	for _, in := range []impl.Inst{
		{Op: impl.OpJal, Rd: 5, Imm: 8}, {Op: impl.OpJal, Imm: -8}, {Op: impl.OpJal, Imm: 2}, {Op: impl.OpJal, Imm: -1048576},
		{Op: impl.OpJalr, Rd: 5, Rs1: 6}, {Op: impl.OpJalr, Rs1: 7, Imm: 2},
		{Op: impl.OpBeq, Imm: 8}, {Op: impl.OpBne, Rs1: 6, Rs2: 7, Imm: -8}, {Op: impl.OpBlt, Rs1: 7, Rs2: 6, Imm: 2},
		{Op: impl.OpBge, Rs1: 6, Rs2: 7, Imm: 4094}, {Op: impl.OpBltu, Rs1: 7, Rs2: 6, Imm: -4096}, {Op: impl.OpBgeu, Imm: -2},
	} {
		m := between(in, dataAt, codeAt)
		got := untouched(t, "a jump", m, impl.StepMachine)
		if got.End != impl.EndNone || got.Steps != 1 {
			t.Errorf("%s: %v", impl.OpName(in.Op), got)
		}
		stepFrom(t, impl.OpName(in.Op)+" out of Code", got, faults(impl.FaultPc))
	}
}

func TestWordThatIsNoInstruction(t *testing.T) {
	for _, w := range []int{0, 1, 4294967295, 115 + 2<<20, 115 + 1<<7, 51 + 2<<25, 19 + 1<<12 + 1<<25} {
		m := between(impl.Inst{Op: impl.OpAddi, Rd: 5}, 1, 2)
		m.Code[1] = w
		stepFrom(t, "no instruction", m, faults(impl.FaultDecode))
		m.Pc += 2
		stepFrom(t, "Pc ahead of the word", m, faults(impl.FaultPc))
	}
}

// The bytes that a machine stores are not its Code, whatever the address.
func TestCodeIsNotMemory(t *testing.T) {
	for _, op := range []int{impl.OpSb, impl.OpSh, impl.OpSw, impl.OpLb, impl.OpLw} {
		in := impl.Inst{Op: op, Rs1: 6}
		m := between(in, codeAt, 0)
		code := slices.Clone(m.Code)
		got := stepFrom(t, "Code as memory", m, faults(impl.FaultMemory))
		if !slices.Equal(got.Code, code) {
			t.Errorf("Code has changed")
		}
	}
}

func TestLastStep(t *testing.T) {
	m := loopingMachine()
	m.Steps = impl.MaxFuel - 1
	got := stepFrom(t, "the last step", m, sets(5, (m.Regs[5]+1)%(1<<32)))
	if again := untouched(t, "beyond", got, impl.StepMachine); !sameMachine(got, again) {
		t.Errorf("a step beyond MaxFuel: %v", again)
	}
}
