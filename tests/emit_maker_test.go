package tests

import (
	"fmt"
	"math/rand"
	"runtime"
	"strings"
	"sync/atomic"
	"testing"
	"time"

	"loop.example/s01681/impl"
)

// madeCode makes up a valid code: functions that do something, and some of madePlain, in which registers are many, and
// whose slots make their frames great.
func madeCode(r *rand.Rand) impl.Ir {
	ir := madeIr(r)
	for i := range r.Intn(3) {
		f := madePlain(r)
		f.Name, f.Slots = fmt.Sprint("p", i), []int{1 + r.Intn(40)}
		for range r.Intn(3) {
			f.Slots = append(f.Slots, []int{1, 6, 900 + r.Intn(200), 1900 + r.Intn(150), 30000 + r.Intn(30000)}[r.Intn(5)])
		}
		ir.Funs = append(ir.Funs, f)
	}
	if r.Intn(12) == 0 {
		ir.Funs = append(ir.Funs, madeWide(r))
	}
	r.Shuffle(len(ir.Funs), func(i, k int) { ir.Funs[i], ir.Funs[k] = ir.Funs[k], ir.Funs[i] })
	m := &irMaker{r: r, ir: ir}
	for _, f := range ir.Funs {
		if !strings.HasPrefix(f.Name, "p") {
			continue
		}
		for i := range f.Code {
			m.fit(f, &f.Code[i])
		}
	}
	return ir
}

// madeWide makes up a function with so many registers at once that some of their spills are far off.
func madeWide(r *rand.Rand) impl.IrFun {
	f := impl.IrFun{Name: "pw", Params: r.Intn(9), Regs: 560 + r.Intn(100), Slots: []int{4}}
	for _, reg := range r.Perm(f.Regs) {
		if reg >= f.Params || r.Intn(2) == 0 {
			f.Code = append(f.Code, impl.IrIns{Op: impl.IrNum, D: reg, N: r.Intn(5000)})
		}
	}
	for range 200 {
		f.Code = append(f.Code, madeStep(r, func() int { return r.Intn(f.Regs) }, r.Intn(2), 0))
	}
	for _, reg := range r.Perm(f.Regs) {
		f.Code = append(f.Code, impl.IrIns{Op: impl.IrStore, A: reg, B: reg, N: 5})
	}
	f.Code = append(f.Code, impl.IrIns{Op: impl.IrRet, A: -1})
	return f
}

// fit gives a step of a plain function what it needs in a code: names, as many arguments as are asked for, a slot.
func (m *irMaker) fit(f impl.IrFun, in *impl.IrIns) {
	switch in.Op {
	case impl.IrAddr:
		in.Sym, in.N = m.anyName(), m.pick(0, 0, 1, 60000)
	case impl.IrSlot:
		in.N = m.r.Intn(len(f.Slots))
	case impl.IrNarrow, impl.IrLoad, impl.IrStore:
		in.N = 1 + m.r.Intn(4)
	case impl.IrAlu:
		in.N = 1 + m.r.Intn(18)
	case impl.IrIf:
		in.Sym = []string{"eq", "ne", "lt", "ge", "ltu", "geu"}[m.r.Intn(6)]
	case impl.IrZero:
		if m.r.Intn(2) == 0 {
			*in = impl.IrIns{Op: impl.IrCopy, A: in.A, B: m.r.Intn(f.Regs), N: m.pick(1, 2, 4, 60000)}
		} else if m.r.Intn(2) == 0 {
			*in = impl.IrIns{Op: impl.IrNarrow, D: in.A, A: m.r.Intn(f.Regs), N: m.pick(1, 2, 3, 4)}
		}
	case impl.IrCall:
		to := m.ir.Funs[m.r.Intn(len(m.ir.Funs))]
		in.Sym, in.Args = to.Name, nil
		for range to.Params {
			in.Args = append(in.Args, m.r.Intn(f.Regs))
		}
	}
}

func TestEmitMadeUpCodes(t *testing.T) {
	t.Parallel()
	var spilt, far, kept, taken, stored, left atomic.Int32
	const count = 3000
	seeds(t, count, func(t *testing.T, seed int) {
		r := rand.New(rand.NewSource(int64(seed) + 31))
		ir := madeCode(r)
		lines := emit(t, ir, 16*r.Intn(4097))
		if wrong := irOkBy(ir); wrong != "" || len(lines) == 0 {
			t.Errorf("%.900s: %s", irText(ir), wrong)
			return
		}
		text := "; " + bareTexts(lines)
		spilt.Add(int32(oneIf(strings.Contains(text, "; lw t1, "))))
		far.Add(int32(oneIf(strings.Contains(text, "; add t2, t2, sp; sw t0, 0(t2)") && strings.Contains(text, "; add t2, t2, sp; lw t1, 0(t2)"))))
		kept.Add(int32(oneIf(strings.Contains(text, "; add t2, t2, sp; sw s11, 0(t2)"))))
		taken.Add(int32(oneIf(strings.Contains(text, ", a6; "))))
		stored.Add(int32(oneIf(strings.Contains(text, "; sw a5, "))))
		left.Add(int32(oneIf(strings.Contains(text, "; lw t0, 0(sp); li a0, "))))
	})
	for name, got := range map[string]int32{"spills": spilt.Load(), "spills far off": far.Load(), "kept registers far off": kept.Load(), "params in registers": taken.Load(), "params in spills": stored.Load(), "copies from spills": left.Load()} {
		if got < 20 {
			t.Errorf("%s: in %d of %d codes", name, got, count)
		}
	}
}

// The same function, with a number of its own for each place among the others, has the same lines but for its labels.
func TestEmitDoesNotAskForTheOthers(t *testing.T) {
	t.Parallel()
	for seed := range 200 {
		r := rand.New(rand.NewSource(int64(seed) + 7))
		ir := madeCode(r)
		f := r.Intn(len(ir.Funs))
		lone := ir
		lone.Funs = nil
		for i, other := range ir.Funs {
			if i != f {
				other.Regs, other.Slots, other.Code = other.Params, nil, stepsFrom("ret -1")
			}
			lone.Funs = append(lone.Funs, other)
		}
		if a, b := funLines(t, ir, f, 1024), funLines(t, lone, f, 1024); a != b {
			t.Errorf("%.900s:\n%.900s\n%.900s", irText(ir), a, b)
		}
	}
}

func TestEmitSpoiltCodes(t *testing.T) {
	t.Parallel()
	var valid atomic.Int32
	const count = 5000
	seeds(t, count, func(t *testing.T, seed int) {
		r := rand.New(rand.NewSource(int64(seed) + 99))
		ir := roomyIr(madeCode(r))
		spoilIr(r, &ir)
		stack := []int{4096, 0, 65536, 17, -16, 65552}[r.Intn(6)]
		lines := emit(t, ir, stack)
		valid.Add(int32(oneIf(len(lines) > 0)))
	})
	if n := valid.Load(); n < count/20 || n > count/2 {
		t.Errorf("%d of %d are valid", n, count)
	}
}

// Behind a call nothing of it goes on, whether there were lines or too many.
func TestEmitHasEnded(t *testing.T) {
	few, much := madeCode(rand.New(rand.NewSource(5))), codeOfLines(impl.MaxLines+1, "functions")
	before := runtime.NumGoroutine()
	for range 20 {
		impl.Emit(few, 0)
		impl.Emit(much, 0)
	}
	// One that has told its end may be on its way out for a moment.
	for range 100 {
		if runtime.NumGoroutine() <= before {
			return
		}
		time.Sleep(time.Millisecond)
	}
	t.Errorf("%d goroutines, and %d behind the calls", before, runtime.NumGoroutine())
}
