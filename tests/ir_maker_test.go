package tests

import (
	"fmt"
	"math/rand"
	"sync/atomic"
	"testing"

	"loop.example/s01681/impl"
)

// irMaker makes up valid codes that mostly do something: what is loaded and stored mostly lies in data or slots.
type irMaker struct {
	r  *rand.Rand
	ir impl.Ir
}

func (m *irMaker) pick(list ...int) int { return list[m.r.Intn(len(list))] }

func madeIr(r *rand.Rand) impl.Ir {
	m := &irMaker{r: r}
	for i := range r.Intn(4) {
		name := fmt.Sprint("g", i)
		if r.Intn(3) == 0 {
			name = fmt.Sprint("$", i)
		}
		m.ir.Data = append(m.ir.Data, impl.IrData{Name: name, Bytes: make([]byte, 1+r.Intn(14))})
	}
	for i := range 1 + r.Intn(4) {
		f := impl.IrFun{Name: fmt.Sprint("f", i), Params: r.Intn(4)}
		f.Regs = f.Params + 1 + r.Intn(6)
		for range r.Intn(4) {
			f.Slots = append(f.Slots, m.pick(1, 3, 4, 5, 8, 20, 4000))
		}
		m.ir.Funs = append(m.ir.Funs, f)
	}
	at := r.Intn(len(m.ir.Funs))
	m.ir.Funs[at].Name, m.ir.Funs[at].Params = "main", 0
	for i := range m.ir.Data {
		m.fillData(&m.ir.Data[i])
	}
	for i := range m.ir.Funs {
		m.fillFun(&m.ir.Funs[i])
	}
	return m.ir
}

func (m *irMaker) anyName() string {
	all := []string{}
	for _, d := range m.ir.Data {
		all = append(all, d.Name)
	}
	for _, f := range m.ir.Funs {
		all = append(all, f.Name)
	}
	return all[m.r.Intn(len(all))]
}

func (m *irMaker) fillData(d *impl.IrData) {
	for at := 0; at < len(d.Bytes); at += 4 {
		if at+4 <= len(d.Bytes) && m.r.Intn(3) == 0 {
			d.Refs = append(d.Refs, impl.IrRef{At: at, Sym: m.anyName(), N: m.pick(0, 0, 0, 1, 4, 16, 60000)})
			continue
		}
		for i := at; i < min(at+4, len(d.Bytes)); i++ {
			d.Bytes[i] = byte(m.r.Intn(256))
		}
	}
}

func (m *irMaker) fillFun(f *impl.IrFun) {
	count, labels := 4+m.r.Intn(20), m.r.Intn(4)
	for range count {
		for _, in := range m.steps(f, labels) {
			f.Code = append(f.Code, in)
		}
	}
	for label := range labels {
		at := m.r.Intn(len(f.Code) + 1)
		f.Code = append(f.Code[:at:at], append([]impl.IrIns{{Op: impl.IrLabel, N: label}}, f.Code[at:]...)...)
	}
	f.Code = append(f.Code, impl.IrIns{Op: impl.IrRet, A: m.r.Intn(f.Regs+1) - 1})
}

// address makes a step that puts an address into a register.
func (m *irMaker) address(f *impl.IrFun, reg int) impl.IrIns {
	switch {
	case len(f.Slots) > 0 && m.r.Intn(2) == 0:
		return impl.IrIns{Op: impl.IrSlot, D: reg, N: m.r.Intn(len(f.Slots))}
	case len(m.ir.Data) > 0:
		return impl.IrIns{Op: impl.IrAddr, D: reg, Sym: m.ir.Data[m.r.Intn(len(m.ir.Data))].Name, N: m.pick(0, 0, 0, 0, 1, 2, 4, 8)}
	}
	return impl.IrIns{Op: impl.IrNum, D: reg, N: m.pick(impl.StackTop-4, impl.StackTop-64, impl.StackTop-65536, impl.StackTop, impl.DataBase)}
}

func (m *irMaker) steps(f *impl.IrFun, labels int) []impl.IrIns {
	reg := func() int { return m.r.Intn(f.Regs) }
	in := impl.IrIns{Op: 1 + m.r.Intn(16)}
	switch in.Op {
	case impl.IrNum:
		in.D, in.N = reg(), m.pick(0, 1, 2, 3, 65, 255, 256, 1<<31, 1<<32-1, m.r.Intn(1<<32))
	case impl.IrMove:
		in.D, in.A = reg(), reg()
	case impl.IrAlu:
		in.D, in.A, in.B, in.N = reg(), reg(), reg(), 1+m.r.Intn(18)
	case impl.IrNarrow:
		in.D, in.A, in.N = reg(), reg(), 1+m.r.Intn(4)
	case impl.IrLoad:
		in.D, in.A, in.N = reg(), reg(), 1+m.r.Intn(5)
	case impl.IrStore:
		in.A, in.B, in.N = reg(), reg(), 1+m.r.Intn(5)
	case impl.IrAddr:
		in.D, in.Sym, in.N = reg(), m.anyName(), m.pick(0, 0, 1, 4, 16, 60000)
	case impl.IrSlot:
		return []impl.IrIns{m.address(f, reg())}
	case impl.IrCall:
		return m.call(f)
	case impl.IrCallR:
		to := m.ir.Funs[m.r.Intn(len(m.ir.Funs))]
		in.D, in.A = reg()-m.r.Intn(2), reg()
		for range to.Params + m.pick(0, 0, 0, 0, 0, 1) {
			in.Args = append(in.Args, reg())
		}
		if m.r.Intn(8) > 0 {
			return []impl.IrIns{{Op: impl.IrAddr, D: in.A, Sym: to.Name}, in}
		}
	case impl.IrLabel, impl.IrJump, impl.IrIf:
		if labels == 0 {
			return nil
		}
		in = impl.IrIns{Op: impl.IrIf, A: reg(), B: reg(), N: m.r.Intn(labels), Sym: []string{"eq", "ne", "lt", "ge", "ltu", "geu"}[m.r.Intn(6)]}
		if m.r.Intn(4) == 0 {
			in = impl.IrIns{Op: impl.IrJump, N: in.N}
		}
	case impl.IrRet:
		if m.r.Intn(4) > 0 {
			return nil
		}
		in.A = reg() - m.r.Intn(2)
	case impl.IrCopy:
		in.A, in.B, in.N = reg(), reg(), m.pick(1, 2, 3, 4, 5, 8, 30)
		if m.r.Intn(8) > 0 {
			return []impl.IrIns{m.address(f, in.A), m.address(f, in.B), in}
		}
	case impl.IrZero:
		in.A, in.N = reg(), m.pick(1, 2, 3, 4, 5, 8, 30)
	}
	if (in.Op == impl.IrLoad || in.Op == impl.IrStore || in.Op == impl.IrZero) && m.r.Intn(12) > 0 {
		return []impl.IrIns{m.address(f, in.A), in}
	}
	return []impl.IrIns{in}
}

func (m *irMaker) call(f *impl.IrFun) []impl.IrIns {
	reg := func() int { return m.r.Intn(f.Regs) }
	in := impl.IrIns{Op: impl.IrCall, D: reg() - m.r.Intn(2)}
	switch m.r.Intn(8) {
	case 0, 1, 2:
		in.Sym, in.Args = "putchar", []int{reg()}
	case 3:
		in.Sym = "getchar"
	case 4:
		if m.r.Intn(8) == 0 {
			in.Sym, in.Args = "exit", []int{reg()}
			break
		}
		return nil
	default:
		to := m.ir.Funs[m.r.Intn(len(m.ir.Funs))]
		in.Sym = to.Name
		for range to.Params {
			in.Args = append(in.Args, reg())
		}
	}
	return []impl.IrIns{in}
}

func TestMadeUpCodes(t *testing.T) {
	var ended [impl.EndFuel + 1]atomic.Int32
	var faults [impl.FaultOut + 1]atomic.Int32
	seeds(t, 4000, func(t *testing.T, seed int) {
		r := rand.New(rand.NewSource(int64(seed)))
		ir := madeIr(r)
		if !irOk(t, ir) {
			t.Errorf("%s\nis not valid: %s", irText(ir), irOkBy(ir))
			return
		}
		in := "some input"[:r.Intn(11)]
		o := runIr(t, ir, in, []int{400, 4000, 20000}[seed%3])
		ended[o.End].Add(1)
		if o.End == impl.EndFault {
			faults[o.Value].Add(1)
		}
		if seed%4 == 0 {
			atEachIrFuel(t, ir, in, min(o.Steps+1, 150))
		}
	})
	for _, end := range []int{impl.EndExit, impl.EndFault, impl.EndStack, impl.EndFuel} {
		if ended[end].Load() < 100 {
			t.Errorf("%d codes end with %d", ended[end].Load(), end)
		}
	}
	for _, fault := range []int{impl.FaultPc, impl.FaultAlign, impl.FaultMemory} {
		if faults[fault].Load() < 40 {
			t.Errorf("%d codes fault with %d", faults[fault].Load(), fault)
		}
	}
}

// spoilIr changes one thing in a code, or a few.
func spoilIr(r *rand.Rand, ir *impl.Ir) {
	number := func() int {
		return []int{-1, -2, 0, 1, 2, 3, 4, 5, 6, 8, 9, 16, 17, 18, 19, 200, 2000, 2001, 8000, 60000, 60001, 1 << 32, 1<<32 - 1, 1<<63 - 1, -1 << 63}[r.Intn(25)]
	}
	name := func() string {
		names := []string{"", "main", "f0", "f1", "g0", "g1", "$0", "$1", "$01", "putchar", "getchar", "exit", "eq", "lt", "gt", "int", "x"}
		return names[r.Intn(len(names))]
	}
	f := &ir.Funs[r.Intn(len(ir.Funs))]
	switch kind := r.Intn(12); {
	case kind == 0:
		*[]*int{&f.Params, &f.Regs}[r.Intn(2)] = number()
	case kind == 1:
		f.Name = name()
	case kind == 2:
		f.Slots = append(f.Slots, number())
	case kind == 3:
		f.Code = f.Code[:r.Intn(len(f.Code)+1)]
	case kind == 4 && len(ir.Data) > 0:
		d := &ir.Data[r.Intn(len(ir.Data))]
		switch r.Intn(3) {
		case 0:
			d.Name = name()
		case 1:
			d.Bytes = d.Bytes[:r.Intn(len(d.Bytes)+1)]
		case 2:
			d.Bytes[r.Intn(len(d.Bytes))] = 1
		}
	case kind == 5 && len(ir.Data) > 0:
		d := &ir.Data[r.Intn(len(ir.Data))]
		d.Refs = append(d.Refs, impl.IrRef{At: number(), Sym: name(), N: number()})
	case kind == 6:
		at := r.Intn(len(f.Code))
		f.Code = append(f.Code[:at:at], f.Code[at+1:]...)
	default:
		in := &f.Code[r.Intn(len(f.Code))]
		switch r.Intn(7) {
		case 0:
			in.Op = r.Intn(18)
		case 1:
			in.D = number()
		case 2:
			in.A = number()
		case 3:
			in.B = number()
		case 4:
			in.N = number()
		case 5:
			in.Sym = name()
		case 6:
			in.Args = append(in.Args, number())
		}
	}
}

func TestSpoiltCodes(t *testing.T) {
	var valid atomic.Int32
	const count = 12000
	seeds(t, count, func(t *testing.T, seed int) {
		r := rand.New(rand.NewSource(int64(seed)))
		ir := roomyIr(madeIr(r))
		spoilIr(r, &ir)
		for r.Intn(4) == 0 && len(ir.Funs) > 0 && len(ir.Funs[0].Code) > 0 {
			ir.Funs = ir.Funs[:1]
			spoilIr(r, &ir)
		}
		if irOk(t, ir) {
			valid.Add(1)
			runIr(t, ir, "in", 300)
		}
	})
	if n := valid.Load(); n < count/10 || n > count/2 {
		t.Errorf("%d of %d are valid", n, count)
	}
}
