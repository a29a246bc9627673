package tests

import (
	"math"
	"math/rand"
	"slices"
	"testing"

	"loop.example/s01681/impl"
)

// stepBy does a step of a valid machine that goes on, from the program as instructions and not from its words.
func stepBy(m impl.Machine, prog []impl.Inst) impl.Machine {
	m = roomyMachine(m)
	m.Steps++
	place := (m.Pc - codeAt) / 4
	if m.Pc < codeAt || m.Pc%4 > 0 || place >= len(prog) {
		return stopped(m, impl.EndFault, impl.FaultPc)
	}
	in := prog[place]
	if in.Op == 0 {
		return stopped(m, impl.EndFault, impl.FaultDecode)
	}
	switch formOf(in.Op) {
	case 'S':
		return storeBy(m, in)
	case 'B':
		return branchBy(m, in)
	case 'E':
		return callBy(m, in)
	}
	w, next, code := resultBy(m, in)
	if code != 0 {
		return stopped(m, impl.EndFault, code)
	}
	m.Pc = impl.Word(next)
	m.Regs[in.Rd] = impl.Word(w)
	m.Regs[0] = 0
	return m
}

func stopped(m impl.Machine, end, value int) impl.Machine {
	m.End, m.Value = end, value
	return m
}

// resultBy gives what comes into Rd, the next Pc and the fault.
func resultBy(m impl.Machine, in impl.Inst) (int, int, int) {
	a, next := m.Regs[in.Rs1], m.Pc+4
	switch in.Op {
	case impl.OpLb, impl.OpLh, impl.OpLw, impl.OpLbu, impl.OpLhu:
		kind := map[int]int{impl.OpLb: 1, impl.OpLh: 3, impl.OpLw: 5, impl.OpLbu: 2, impl.OpLhu: 4}[in.Op]
		if code := faultAt(m, kind, a+in.Imm); code != 0 {
			return 0, 0, code
		}
		bytes, _ := bytesAt(m, a+in.Imm, sizes[kind])
		return widened(kind, bytes), next, 0
	case impl.OpLui:
		return in.Imm << 12, next, 0
	case impl.OpAuipc:
		return m.Pc + in.Imm<<12, next, 0
	case impl.OpJal:
		return next, m.Pc + in.Imm, 0
	case impl.OpJalr:
		return next, (a + in.Imm) / 2 * 2, 0
	}
	if in.Op <= impl.AluRemu {
		return aluBy(in.Op, a, m.Regs[in.Rs2]), next, 0
	}
	op := map[int]int{impl.OpAddi: 1, impl.OpSlti: 4, impl.OpSltiu: 5, impl.OpXori: 6, impl.OpOri: 9, impl.OpAndi: 10, impl.OpSlli: 3, impl.OpSrli: 7, impl.OpSrai: 8}[in.Op]
	return aluBy(op, a, in.Imm), next, 0
}

func storeBy(m impl.Machine, in impl.Inst) impl.Machine {
	kind := map[int]int{impl.OpSb: 2, impl.OpSh: 4, impl.OpSw: 5}[in.Op]
	at := m.Regs[in.Rs1] + in.Imm
	if code := faultAt(m, kind, at); code != 0 {
		return stopped(m, impl.EndFault, code)
	}
	bytes, _ := bytesAt(m, at, sizes[kind])
	for i, w := 0, m.Regs[in.Rs2]; i < len(bytes); i, w = i+1, w/256 {
		bytes[i] = byte(w % 256)
	}
	m.Pc += 4
	return m
}

func branchBy(m impl.Machine, in impl.Inst) impl.Machine {
	a, b := m.Regs[in.Rs1], m.Regs[in.Rs2]
	signed, unsigned := aluBy(impl.AluSlt, a, b) == 1, a < b
	taken := map[int]bool{impl.OpBeq: a == b, impl.OpBne: a != b, impl.OpBlt: signed, impl.OpBge: !signed, impl.OpBltu: unsigned, impl.OpBgeu: !unsigned}[in.Op]
	if taken {
		m.Pc += in.Imm
	} else {
		m.Pc += 4
	}
	return m
}

func callBy(m impl.Machine, in impl.Inst) impl.Machine {
	if in.Op == impl.OpEbreak {
		return stopped(m, impl.EndFault, impl.FaultCall)
	}
	switch m.Regs[17] {
	case 1:
		if len(m.Out) == 10000 {
			return stopped(m, impl.EndFault, impl.FaultOut)
		}
		m.Out = append(m.Out, byte(m.Regs[10]%256))
	case 2:
		m.Regs[10] = 4294967295
		if len(m.In) > 0 {
			m.Regs[10], m.In = int(m.In[0]), m.In[1:]
		}
	case 3:
		return stopped(m, impl.EndExit, m.Regs[10])
	case 4:
		return stopped(m, impl.EndStack, 0)
	default:
		return stopped(m, impl.EndFault, impl.FaultCall)
	}
	m.Pc += 4
	return m
}

// anyInst gives an instruction that mostly does something: registers 8 and 9 are bases of memory, jumps are near.
func anyInst(r *rand.Rand, words int) impl.Inst {
	op := 1 + r.Intn(impl.OpEbreak)
	form := formOf(op)
	in := impl.Inst{Op: op}
	if usesRd(form) {
		in.Rd = []int{0, 5, 6, 7, 10, 31}[r.Intn(6)]
	}
	if usesRs1(form) {
		in.Rs1 = r.Intn(32)
	}
	if usesRs2(form) {
		in.Rs2 = r.Intn(32)
	}
	switch form {
	case 'I', 'H':
		in.Imm = r.Intn(32)
	case 'U':
		in.Imm = r.Intn(1 << 20)
	case 'B', 'J':
		in.Imm = 4 * (r.Intn(words) - words/2)
	}
	memory := op >= impl.OpLb && op <= impl.OpSw && op != impl.OpJalr
	if memory && r.Intn(12) > 0 {
		in.Rs1, in.Imm = 8+r.Intn(2), 4*r.Intn(3)
	}
	if op == impl.OpJalr && r.Intn(12) > 0 {
		in.Rs1 = 20
	}
	return in
}

// anyMachine gives a machine with a program of such instructions, and here and there a word that is none.
func anyMachine(r *rand.Rand) (impl.Machine, []impl.Inst) {
	prog := []impl.Inst{}
	for range 60 {
		prog = append(prog, anyInst(r, 60))
	}
	prog[r.Intn(60)] = impl.Inst{}
	m := smallMachine(prog...)
	for i := range 31 {
		m.Regs[i+1] = edges[r.Intn(29)]
	}
	m.Regs[8], m.Regs[9], m.Regs[20], m.Regs[17] = dataAt, stackEnd-32, codeAt+16, 1+r.Intn(2)
	m.Pc = codeAt + 4*r.Intn(60)
	return m, prog
}

// checkChange holds a step against promise 3: what it may change, and that it leaves all else.
func checkChange(t *testing.T, m, got impl.Machine) {
	t.Helper()
	regs, parts := 0, 0
	for r := range m.Regs {
		if m.Regs[r] != got.Regs[r] {
			regs++
		}
	}
	for i, list := range byteLists(m) {
		if !slices.Equal(list, byteLists(got)[i]) {
			parts++
		}
	}
	// A byte that is got goes into a register.
	gets := len(got.In) < len(m.In)
	if regs > 1 || parts > 1 || regs+parts > 1 && !gets || !slices.Equal(m.Code, got.Code) || got.Steps != m.Steps+1 {
		t.Errorf("a step changes %d registers and %d lists, from\n%v to\n%v", regs, parts, m, got)
	}
	if !impl.MachineOk(got) {
		t.Errorf("a step gives a machine that is not valid:\n%v", got)
	}
}

func TestStepsOfManyMachines(t *testing.T) {
	r := rand.New(rand.NewSource(3))
	seen := map[int]int{}
	ends := map[int]int{}
	for range 3000 {
		m, prog := anyMachine(r)
		for n := 0; n < 40 && m.End == impl.EndNone; n++ {
			if place := (m.Pc - codeAt) / 4; m.Pc >= codeAt && place < len(prog) {
				seen[prog[place].Op]++
			}
			got, want := untouched(t, "a step", m, impl.StepMachine), stepBy(m, prog)
			if !sameMachine(got, want) {
				t.Fatalf("a step from\n%v gives\n%v, want\n%v", m, got, want)
			}
			checkChange(t, m, got)
			m = got
		}
		ends[100*m.End+m.Value%100]++
	}
	for op := range impl.OpEbreak + 1 {
		if seen[op] < 20 {
			t.Errorf("Op %d was met %d times", op, seen[op])
		}
	}
	for code := impl.FaultPc; code <= impl.FaultCall; code++ {
		if ends[200+code] < 20 {
			t.Errorf("fault %d was met %d times", code, ends[200+code])
		}
	}
}

// talkingMachine reads In and writes each byte twice until nothing is left, then leaves with a sum.
func talkingMachine(in []byte) impl.Machine {
	m, _ := impl.StartMachine(impl.Image{Code: codeOf(
		impl.Inst{Op: impl.OpAddi, Rd: 17, Imm: 2}, impl.Inst{Op: impl.OpEcall},
		impl.Inst{Op: impl.OpBlt, Rs1: 10, Rs2: 0, Imm: 32},
		impl.Inst{Op: impl.AluAdd, Rd: 5, Rs1: 5, Rs2: 10}, impl.Inst{Op: impl.OpSw, Rs1: 2, Rs2: 5, Imm: -4},
		impl.Inst{Op: impl.OpAddi, Rd: 17, Imm: 1}, impl.Inst{Op: impl.OpEcall}, impl.Inst{Op: impl.OpEcall},
		impl.Inst{Op: impl.OpLw, Rd: 5, Rs1: 2, Imm: -4}, impl.Inst{Op: impl.OpJal, Imm: -36},
		impl.Inst{Op: impl.OpAddi, Rd: 10, Rs1: 5}, impl.Inst{Op: impl.OpAddi, Rd: 17, Imm: 3}, impl.Inst{Op: impl.OpEcall},
	), Entry: codeAt, Stack: 16}, in)
	return m
}

func TestRunUpToItsEnd(t *testing.T) {
	m := talkingMachine([]byte{1, 2, 250})
	got := untouched(t, "run", m, func(m impl.Machine) impl.Machine { return impl.RunMachine(m, 1000) })
	if got.End != impl.EndExit || got.Value != 253 || !slices.Equal(got.Out, []byte{1, 1, 2, 2, 250, 250}) || len(got.In) != 0 || got.Steps != 36 || got.Pc != codeAt+48 {
		t.Errorf("%v", got)
	}
	if exact := impl.RunMachine(m, 36); !sameMachine(exact, got) {
		t.Errorf("with just enough fuel: %v", exact)
	}
	if short := impl.RunMachine(m, 35); short.End != impl.EndNone || short.Value != 0 || short.Steps != 35 {
		t.Errorf("with fuel that is one short: %v", short)
	}
	if beyond := impl.RunMachine(got, 5); !sameMachine(beyond, got) {
		t.Errorf("behind the end: %v", beyond)
	}
}

func TestFuelThatIsNone(t *testing.T) {
	m := talkingMachine([]byte{1})
	for _, fuel := range []int{0, -1, -1000000, math.MinInt} {
		got := untouched(t, "no fuel", m, func(m impl.Machine) impl.Machine { return impl.RunMachine(m, fuel) })
		if !sameMachine(got, m) {
			t.Errorf("fuel %d: %v", fuel, got)
		}
	}
	if got := impl.RunMachine(m, 1); !sameMachine(got, impl.StepMachine(m)) || got.Steps != 1 {
		t.Errorf("fuel 1: %v", got)
	}
}

func TestFuelWithoutEnd(t *testing.T) {
	m := loopingMachine()
	m.Regs[5] = 0
	for _, fuel := range []int{999999, 1000000, 1000001, math.MaxInt} {
		steps := min(fuel, impl.MaxFuel)
		got := impl.RunMachine(m, fuel)
		if got.Steps != steps || got.Regs[5] != (steps+1)/2 || got.End != impl.EndNone || !impl.MachineOk(got) {
			t.Errorf("fuel %d: %d steps, %d, end %d", fuel, got.Steps, got.Regs[5], got.End)
		}
	}
	m.Steps = 999990
	if got := impl.RunMachine(m, 1000000); got.Steps != impl.MaxFuel || got.Regs[5] != 5 {
		t.Errorf("with 10 steps left: %d and %d", got.Steps, got.Regs[5])
	}
}

func TestRunIsItsSteps(t *testing.T) {
	m := talkingMachine([]byte{9, 8, 7})
	step := m
	for n := range 45 {
		if run := impl.RunMachine(m, n); !sameMachine(run, step) {
			t.Fatalf("fuel %d gives %v, that many steps %v", n, run, step)
		}
		step = impl.StepMachine(step)
	}
}

// checkParts holds promise 4 at one cut: a + b steps are b steps behind a.
func checkParts(t *testing.T, m impl.Machine, a, b int) {
	t.Helper()
	whole := impl.RunMachine(m, a+b)
	behind := func(m impl.Machine) impl.Machine { return impl.RunMachine(m, b) }
	if parts := untouched(t, "part", impl.RunMachine(m, a), behind); !sameMachine(whole, parts) {
		t.Errorf("%d and %d steps give\n%v, at once\n%v", a, b, parts, whole)
	}
}

func TestRunInTwoParts(t *testing.T) {
	for _, m := range []impl.Machine{talkingMachine([]byte{9, 8, 7}), talkingMachine(nil), loopingMachine(), smallMachine(impl.Inst{}), smallMachine(impl.Inst{Op: impl.OpAddi}), {}} {
		for _, all := range []int{0, 1, 2, 17, 35, 36, 37, 60} {
			for a := 0; a <= all; a++ {
				checkParts(t, m, a, all-a)
			}
		}
	}
	r := rand.New(rand.NewSource(4))
	for range 300 {
		m, _ := anyMachine(r)
		for _, a := range []int{0, 1, 2, 5, 20, 60} {
			checkParts(t, m, a, 60-a)
		}
	}
}

func TestRunInTwoPartsUpToTheLastStep(t *testing.T) {
	m := loopingMachine()
	for _, a := range []int{0, 1, 500001, 999999, 1000000} {
		checkParts(t, m, a, impl.MaxFuel-a)
		checkParts(t, m, a, impl.MaxFuel)
	}
}
