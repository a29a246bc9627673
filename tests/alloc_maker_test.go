package tests

import (
	"math/rand"
	"slices"
	"sync/atomic"
	"testing"

	"loop.example/s01681/impl"
)

// madePlain makes up a plain function: with few registers and with many, with few calls and with many, with jumps within
// and across, and with much that nobody comes to.
func madePlain(r *rand.Rand) impl.IrFun {
	f := impl.IrFun{Name: "f", Params: r.Intn(9), Slots: []int{4}}
	f.Regs = f.Params + []int{0, 1, 3, 10, 25, 40, 70}[r.Intn(7)]
	if f.Regs == 0 {
		f.Regs = 1
	}
	calls, labels := r.Intn(3), r.Intn(6)
	count := 1 + r.Intn([]int{10, 60, 200}[r.Intn(3)])
	// Registers that lie close make short stretches, any registers long ones.
	width := f.Regs
	if r.Intn(2) == 0 {
		width = 1 + r.Intn(f.Regs)
	}
	for i := range count {
		low := 0
		if width < f.Regs {
			low = i * (f.Regs - width) / count
		}
		reg := func() int { return low + r.Intn(width) }
		f.Code = append(f.Code, madeStep(r, reg, calls, labels))
	}
	for label := range labels {
		at := r.Intn(len(f.Code) + 1)
		f.Code = slices.Insert(f.Code, at, impl.IrIns{Op: impl.IrLabel, N: label})
	}
	f.Code = append(f.Code, impl.IrIns{Op: impl.IrRet, A: r.Intn(f.Regs+1) - 1})
	return f
}

// madeStep makes up a step with registers that reg gives, more of them calls and jumps the more there are to be.
func madeStep(r *rand.Rand, reg func() int, calls, labels int) impl.IrIns {
	args := func() []int {
		list := []int{}
		for range r.Intn(9) {
			list = append(list, reg())
		}
		return list
	}
	switch kind := r.Intn(40); {
	case kind < 3*calls:
		return impl.IrIns{Op: impl.IrCall, D: []int{-1, reg()}[r.Intn(2)], Sym: []string{"f", "putchar", ""}[r.Intn(3)], Args: args()}
	case kind < 4*calls:
		return impl.IrIns{Op: impl.IrCallR, D: []int{-1, reg()}[r.Intn(2)], A: reg(), Args: args()}
	case kind == 39:
		return impl.IrIns{Op: impl.IrRet, A: []int{-1, reg()}[r.Intn(2)]}
	case kind >= 36 && labels > 0:
		return impl.IrIns{Op: impl.IrJump, N: r.Intn(labels)}
	case kind >= 31 && labels > 0:
		return impl.IrIns{Op: impl.IrIf, A: reg(), B: reg(), N: r.Intn(labels), Sym: []string{"eq", "ltu"}[r.Intn(2)]}
	}
	switch r.Intn(9) {
	case 0, 1:
		return impl.IrIns{Op: impl.IrNum, D: reg(), N: 1}
	case 2:
		return impl.IrIns{Op: impl.IrMove, D: reg(), A: reg()}
	case 3:
		return impl.IrIns{Op: impl.IrAlu, D: reg(), A: reg(), B: reg(), N: 1}
	case 4:
		return impl.IrIns{Op: impl.IrLoad, D: reg(), A: reg(), N: 5}
	case 5:
		return impl.IrIns{Op: impl.IrStore, A: reg(), B: reg(), N: 5}
	case 6:
		return impl.IrIns{Op: impl.IrAddr, D: reg(), Sym: "?"}
	case 7:
		return impl.IrIns{Op: impl.IrSlot, D: reg()}
	}
	return impl.IrIns{Op: impl.IrZero, A: reg(), N: 1}
}

func TestMadeUpFunctions(t *testing.T) {
	var spilt, taken, crossed, entered, gone atomic.Int32
	seeds(t, 6000, func(t *testing.T, seed int) {
		r := rand.New(rand.NewSource(int64(seed)))
		f := madePlain(r)
		g := alloc(t, f)
		if len(g.live) == 0 {
			t.Errorf("%.500s is not plain: %s", funText(f), plainFunBy(f))
			return
		}
		for reg, span := range g.spans {
			crossed.Add(int32(oneIf(span.Cross)))
			entered.Add(int32(oneIf(span.From == -1)))
			gone.Add(int32(oneIf(span.To == -1)))
			spilt.Add(int32(oneIf(g.places[reg].Spill >= 0)))
			// One that got its spill behind one that comes later: it was taken back.
			for other := range g.spans {
				if g.spans[other].From > span.From && g.places[other].Spill >= 0 && g.places[other].Spill < g.places[reg].Spill {
					taken.Add(1)
					break
				}
			}
		}
	})
	for name, count := range map[string]*atomic.Int32{"spilt": &spilt, "taken back": &taken, "across a call": &crossed, "live before step 0": &entered, "nowhere": &gone} {
		if count.Load() < 1000 {
			t.Errorf("%s: %d", name, count.Load())
		}
	}
}

// Functions with something changed in them, as they are in codes, valid ones and not.
func TestSpoiltFunctions(t *testing.T) {
	var plain, not atomic.Int32
	seeds(t, 6000, func(t *testing.T, seed int) {
		r := rand.New(rand.NewSource(int64(seed)))
		ir := roomyIr(madeIr(r))
		if seed%2 == 0 {
			ir.Funs = []impl.IrFun{roomyIr(impl.Ir{Funs: []impl.IrFun{madePlain(r)}}).Funs[0]}
		}
		spoilIr(r, &ir)
		for _, f := range ir.Funs {
			if len(alloc(t, f).live) > 0 {
				plain.Add(1)
			} else {
				not.Add(1)
			}
		}
	})
	if plain.Load() < 2000 || not.Load() < 2000 {
		t.Errorf("%d are plain, %d are not", plain.Load(), not.Load())
	}
}

// What is answered of a function does not hang on what is not in it: its name, the names in it, and where its labels are
// numbered from.
func TestWhatAllotDoesNotAsk(t *testing.T) {
	for seed := range 300 {
		f := madePlain(rand.New(rand.NewSource(int64(seed))))
		other := roomyIr(impl.Ir{Funs: []impl.IrFun{f}}).Funs[0]
		other.Name, other.Slots = "int", []int{9, 60000}
		for i, in := range other.Code {
			switch in.Op {
			case impl.IrAddr, impl.IrCall:
				other.Code[i].Sym = "another"
			case impl.IrLabel, impl.IrJump, impl.IrIf:
				other.Code[i].N = 1<<62 - in.N
			}
		}
		if not := otherwise(alloc(t, f), alloc(t, other)); not != "" {
			t.Errorf("%.500s: %s", funText(f), not)
		}
	}
}
