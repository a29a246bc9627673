package tests

import (
	"strings"

	"loop.example/s01681/impl"
)

// A second reading of how a code runs: one loop over the steps as they stand, with the calls that are under way in a list,
// and memory as bytes by address.

type irWorldBy struct {
	ir      impl.Ir
	in      string
	out     impl.Outcome
	memory  map[int]byte
	dataEnd int
	names   map[string]int // the addresses
	calls   []*irCallBy
}

type irCallBy struct {
	f    impl.IrFun
	regs []uint32
	at   int // the step that comes next
	base int // the address of slot 0
	into int // the caller's register for the result
}

const (
	irDataBy, irCodeBy, irTopBy = 1048576, 65536, 2097152
	irStackBy                   = irTopBy - 65536
)

// runIrBy runs a valid code. What ends it is thrown as an endBy.
func runIrBy(ir impl.Ir, in string, fuel int) (out impl.Outcome) {
	w := &irWorldBy{ir: ir, in: in, memory: map[int]byte{}, dataEnd: irDataBy, names: map[string]int{}}
	defer func() {
		e, ok := recover().(endBy)
		if !ok {
			panic("the second reading of RunIr did not end")
		}
		out = w.out
		out.End, out.Value = e.end, e.value
	}()
	for i, f := range ir.Funs {
		w.names[f.Name] = irCodeBy + 16*i
	}
	for _, d := range ir.Data {
		w.names[d.Name] = w.dataEnd
		for _, b := range d.Bytes {
			w.memory[w.dataEnd] = b
			w.dataEnd++
		}
		w.dataEnd = roundUp(w.dataEnd, 4)
	}
	for _, d := range ir.Data {
		for _, ref := range d.Refs {
			w.put(w.names[d.Name]+ref.At, 4, uint32(w.names[ref.Sym]+ref.N))
		}
	}
	w.enter(w.names["main"], nil, -1)
	for {
		w.step(fuel)
	}
}

func (w *irWorldBy) enter(address int, args []uint32, into int) {
	f := w.ir.Funs[(address-irCodeBy)/16]
	room := 0
	for _, size := range f.Slots {
		room += roundUp(size, 4)
	}
	base := irTopBy
	if len(w.calls) > 0 {
		base = w.calls[len(w.calls)-1].base
	}
	base -= roundUp(room, 16)
	if len(w.calls) == 1000 || base < irStackBy {
		panic(endBy{impl.EndStack, 0})
	}
	c := &irCallBy{f: f, regs: make([]uint32, f.Regs), base: base, into: into}
	copy(c.regs, args)
	w.calls = append(w.calls, c)
	w.out.Depth = max(w.out.Depth, len(w.calls))
}

func faultBy(code int) { panic(endBy{impl.EndFault, code}) }

// put writes so many bytes; the address is that of bytes that are there.
func (w *irWorldBy) put(at, size int, word uint32) {
	w.reach(at, size)
	for i := range size {
		w.memory[at+i] = byte(word >> (8 * i))
	}
}

func (w *irWorldBy) get(at, size int) uint32 {
	w.reach(at, size)
	word := uint32(0)
	for i := range size {
		word |= uint32(w.memory[at+i]) << (8 * i)
	}
	return word
}

func (w *irWorldBy) reach(at, size int) {
	if at/size*size != at {
		faultBy(impl.FaultAlign)
	}
	inData := at >= irDataBy && at+size <= w.dataEnd
	inStack := at >= irStackBy && at+size <= irTopBy
	if !inData && !inStack {
		faultBy(impl.FaultMemory)
	}
}

func widenBy(kind int, word uint32) uint32 {
	switch kind {
	case impl.KindI8:
		return uint32(int32(word<<24) >> 24)
	case impl.KindU8:
		return word & 255
	case impl.KindI16:
		return uint32(int32(word<<16) >> 16)
	case impl.KindU16:
		return word & 65535
	}
	return word
}

func irAluBy(op int, a, b uint32) uint32 {
	switch op {
	case impl.AluAdd:
		return a + b
	case impl.AluSub:
		return a - b
	case impl.AluXor:
		return a ^ b
	case impl.AluOr:
		return a | b
	case impl.AluAnd:
		return a & b
	case impl.AluSltu:
		return uint32(oneIf(a < b))
	case impl.AluSlt:
		return uint32(oneIf(int32(a) < int32(b)))
	case impl.AluMul:
		return a * b
	}
	return uint32(aluBy(op, int(a), int(b)))
}

func testsBy(sym string, a, b uint32) bool {
	below := a < b
	if !strings.HasSuffix(sym, "u") {
		below = int32(a) < int32(b)
	}
	switch strings.TrimSuffix(sym, "u") {
	case "eq":
		return a == b
	case "ne":
		return a != b
	case "lt":
		return below
	}
	return !below
}

func (w *irWorldBy) step(fuel int) {
	c := w.calls[len(w.calls)-1]
	in := c.f.Code[c.at]
	c.at++
	cost := 1
	if in.Op == impl.IrCopy || in.Op == impl.IrZero {
		cost += quarterBy(in.N)
	}
	if w.out.Steps+cost > fuel {
		w.out.Steps = fuel
		panic(endBy{impl.EndFuel, 0})
	}
	w.out.Steps += cost
	reg := func(r int) uint32 { return c.regs[r] }
	at := func(r int) int { return int(c.regs[r]) }
	switch in.Op {
	case impl.IrNum:
		c.regs[in.D] = uint32(in.N)
	case impl.IrMove:
		c.regs[in.D] = reg(in.A)
	case impl.IrAlu:
		c.regs[in.D] = irAluBy(in.N, reg(in.A), reg(in.B))
	case impl.IrNarrow:
		c.regs[in.D] = widenBy(in.N, reg(in.A))
	case impl.IrLoad:
		c.regs[in.D] = widenBy(in.N, w.get(at(in.A), sizes[in.N]))
	case impl.IrStore:
		w.put(at(in.A), sizes[in.N], reg(in.B))
	case impl.IrAddr:
		c.regs[in.D] = uint32(w.names[in.Sym] + in.N)
	case impl.IrSlot:
		before := 0
		for _, size := range c.f.Slots[:in.N] {
			before += roundUp(size, 4)
		}
		c.regs[in.D] = uint32(c.base + before)
	case impl.IrCopy:
		for i := range in.N {
			w.put(at(in.A)+i, 1, w.get(at(in.B)+i, 1))
		}
	case impl.IrZero:
		for i := range in.N {
			w.put(at(in.A)+i, 1, 0)
		}
	default:
		w.jumpy(c, in)
	}
}

func (w *irWorldBy) jumpy(c *irCallBy, in impl.IrIns) {
	args := []uint32{}
	for _, r := range in.Args {
		args = append(args, c.regs[r])
	}
	result := uint32(0)
	switch in.Op {
	case impl.IrJump, impl.IrIf:
		if in.Op == impl.IrJump || testsBy(in.Sym, c.regs[in.A], c.regs[in.B]) {
			for at, label := range c.f.Code {
				if label.Op == impl.IrLabel && label.N == in.N {
					c.at = at
				}
			}
		}
		return
	case impl.IrLabel:
		return
	case impl.IrRet:
		if in.A >= 0 {
			result = c.regs[in.A]
		}
		w.calls = w.calls[:len(w.calls)-1]
		if len(w.calls) == 0 {
			panic(endBy{impl.EndExit, int(result)})
		}
		in.D, c = c.into, w.calls[len(w.calls)-1]
	case impl.IrCallR:
		address := int(c.regs[in.A])
		for i, f := range w.ir.Funs {
			if address == irCodeBy+16*i && f.Params == len(args) {
				w.enter(address, args, in.D)
				return
			}
		}
		faultBy(impl.FaultPc)
	case impl.IrCall:
		switch in.Sym {
		case "putchar":
			if len(w.out.Out) >= 10000 {
				faultBy(impl.FaultOut)
			}
			w.out.Out = append(w.out.Out, byte(args[0]))
			result = args[0]
		case "getchar":
			result = 1<<32 - 1
			if w.in != "" {
				result, w.in = uint32(w.in[0]), w.in[1:]
			}
		case "exit":
			panic(endBy{impl.EndExit, int(args[0])})
		default:
			w.enter(w.names[in.Sym], args, in.D)
			return
		}
	}
	if in.D >= 0 {
		c.regs[in.D] = result
	}
}
