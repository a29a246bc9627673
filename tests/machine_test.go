package tests

import (
	"math"
	"slices"
	"testing"

	"loop.example/s01681/impl"
)

// codeOf writes instructions as words; Op 0 stands for a word that is no instruction.
func codeOf(prog ...impl.Inst) []int {
	code := []int{}
	for _, in := range prog {
		w, _ := impl.EncodeInst(in)
		code = append(code, w)
	}
	return code
}

// smallMachine has bytes in Data and in the stack that are all different from each other, and some in In and Out.
func smallMachine(prog ...impl.Inst) impl.Machine {
	m := impl.Machine{Code: codeOf(prog...), Pc: impl.CodeBase, Regs: make([]int, 32), In: []byte{200, 7}, Out: []byte{9}}
	for i := range 12 {
		m.Data = append(m.Data, byte(129+i))
	}
	for i := range 32 {
		m.Stack = append(m.Stack, byte(240-3*i))
	}
	for r := 1; r < 32; r++ {
		m.Regs[r] = 1000003*r + 4000000000
		if m.Regs[r] > math.MaxUint32 {
			m.Regs[r] -= 1 << 32
		}
	}
	return m
}

func byteLists(m impl.Machine) [][]byte { return [][]byte{m.Data, m.Stack, m.In, m.Out} }
func intLists(m impl.Machine) [][]int   { return [][]int{m.Code, m.Regs} }

// sameMachine makes no difference between an empty list and nil.
func sameMachine(a, b impl.Machine) bool {
	for i, list := range byteLists(a) {
		if !slices.Equal(list, byteLists(b)[i]) {
			return false
		}
	}
	for i, list := range intLists(a) {
		if !slices.Equal(list, intLists(b)[i]) {
			return false
		}
	}
	return a.Pc == b.Pc && a.Steps == b.Steps && a.End == b.End && a.Value == b.Value
}

// roomy copies a list with room behind it, where a program that appends in place would write.
func roomy[T any](list []T) []T {
	return append(make([]T, 0, len(list)+5), list...)
}

func roomyMachine(m impl.Machine) impl.Machine {
	m.Code, m.Regs = roomy(m.Code), roomy(m.Regs)
	m.Data, m.Stack, m.In, m.Out = roomy(m.Data), roomy(m.Stack), roomy(m.In), roomy(m.Out)
	return m
}

// withRoom is the machine with the room behind its lists as a part of them.
func withRoom(m impl.Machine) impl.Machine {
	m.Code, m.Regs = m.Code[:cap(m.Code)], m.Regs[:cap(m.Regs)]
	m.Data, m.Stack, m.In, m.Out = m.Data[:cap(m.Data)], m.Stack[:cap(m.Stack)], m.In[:cap(m.In)], m.Out[:cap(m.Out)]
	return m
}

// touch says whether two lists have an element in common, the room behind them counted.
func touch[T any](a, b []T) bool {
	a, b = a[:cap(a)], b[:cap(b)]
	if len(a) == 0 || len(b) == 0 {
		return false
	}
	for i := range a {
		if &a[i] == &b[0] {
			return true
		}
	}
	for i := range b {
		if &b[i] == &a[0] {
			return true
		}
	}
	return false
}

func anyTouch[T any](t *testing.T, name string, given, got [][]T) {
	t.Helper()
	for i, list := range got {
		for _, other := range append(slices.Clone(given), got[i+1:]...) {
			if touch(list, other) {
				t.Errorf("%s: list %d of the answer shares memory", name, i)
			}
		}
	}
}

// untouched makes a call with a machine, and looks whether it left this as it was and gave new memory.
func untouched(t *testing.T, name string, m impl.Machine, call func(impl.Machine) impl.Machine) impl.Machine {
	t.Helper()
	given := roomyMachine(m)
	before := roomyMachine(withRoom(given))
	got := call(given)
	if !sameMachine(before, withRoom(given)) {
		t.Errorf("%s: the machine that was handed in has changed", name)
	}
	anyTouch(t, name, byteLists(given), byteLists(got))
	anyTouch(t, name, intLists(given), intLists(got))
	return got
}

func plainImage() impl.Image {
	return impl.Image{Code: codeOf(impl.Inst{Op: impl.OpEcall}, impl.Inst{Op: impl.OpEbreak}), Data: []byte{1, 2}, Entry: impl.CodeBase, Stack: 48}
}

// imageEdges has each part of what makes an image valid, at its edge and beyond.
var imageEdges = []struct {
	name   string
	change func(*impl.Image)
	ok     bool
}{
	{"as it is", func(im *impl.Image) {}, true},
	{"no word", func(im *impl.Image) { im.Code = nil }, false},
	{"no word, not nil", func(im *impl.Image) { im.Code = []int{} }, false},
	{"one word", func(im *impl.Image) { im.Code = []int{0} }, true},
	{"most words", func(im *impl.Image) { im.Code = make([]int, 16384) }, true},
	{"too many words", func(im *impl.Image) { im.Code = make([]int, 16385) }, false},
	{"greatest word", func(im *impl.Image) { im.Code[1] = 4294967295 }, true},
	{"above a word", func(im *impl.Image) { im.Code[1] = 4294967296 }, false},
	{"below a word", func(im *impl.Image) { im.Code[0] = -1 }, false},
	{"no data", func(im *impl.Image) { im.Data = nil }, true},
	{"most data", func(im *impl.Image) { im.Data = make([]byte, 65536) }, true},
	{"too much data", func(im *impl.Image) { im.Data = make([]byte, 65537) }, false},
	{"entry in front", func(im *impl.Image) { im.Entry = 65532 }, false},
	{"entry at 0", func(im *impl.Image) { im.Entry = 0 }, false},
	{"entry far in front", func(im *impl.Image) { im.Entry = math.MinInt }, false},
	{"entry far in front, a multiple", func(im *impl.Image) { im.Entry = math.MinInt + 65536 }, false},
	{"entry 1 between", func(im *impl.Image) { im.Entry = 65537 }, false},
	{"entry 2 between", func(im *impl.Image) { im.Entry = 65538 }, false},
	{"entry 3 between", func(im *impl.Image) { im.Entry = 65539 }, false},
	{"entry at the last", func(im *impl.Image) { im.Entry = 65540 }, true},
	{"entry behind", func(im *impl.Image) { im.Entry = 65544 }, false},
	{"entry far behind", func(im *impl.Image) { im.Entry = math.MaxInt - 3 }, false},
	{"entry at the last of most", func(im *impl.Image) { im.Code, im.Entry = make([]int, 16384), 131068 }, true},
	{"entry behind most", func(im *impl.Image) { im.Code, im.Entry = make([]int, 16384), 131072 }, false},
	{"no stack", func(im *impl.Image) { im.Stack = 0 }, true},
	{"stack of 16", func(im *impl.Image) { im.Stack = 16 }, true},
	{"stack of 8", func(im *impl.Image) { im.Stack = 8 }, false},
	{"stack of 15", func(im *impl.Image) { im.Stack = 15 }, false},
	{"stack of 17", func(im *impl.Image) { im.Stack = 17 }, false},
	{"stack of -16", func(im *impl.Image) { im.Stack = -16 }, false},
	{"most stack", func(im *impl.Image) { im.Stack = 65536 }, true},
	{"too much stack", func(im *impl.Image) { im.Stack = 65552 }, false},
}

func TestImagesThatAreValidAndNot(t *testing.T) {
	for _, c := range imageEdges {
		im := plainImage()
		c.change(&im)
		if impl.ImageOk(im) != c.ok {
			t.Errorf("%s: ImageOk is not %v", c.name, c.ok)
		}
		m, ok := impl.StartMachine(im, []byte("in"))
		if ok != c.ok || !ok && !sameMachine(m, impl.Machine{}) || ok && !impl.MachineOk(m) {
			t.Errorf("%s: StartMachine gives %v", c.name, ok)
		}
	}
	if impl.ImageOk(impl.Image{}) {
		t.Error("the image of nothing is taken")
	}
}

func TestStartOfAMachine(t *testing.T) {
	im := plainImage()
	im.Entry = 65540
	in := []byte{3, 1, 2}
	m, ok := impl.StartMachine(im, in)
	want := impl.Machine{Code: slices.Clone(im.Code), Pc: 65540, Regs: make([]int, 32), Data: []byte{1, 2}, Stack: make([]byte, 48), In: []byte{3, 1, 2}}
	want.Regs[2] = 2097152
	if !ok || !sameMachine(m, want) {
		t.Errorf("%v, %v", m, ok)
	}
	given := impl.Machine{Code: im.Code, Data: im.Data, In: in}
	anyTouch(t, "start", byteLists(given), byteLists(m))
	anyTouch(t, "start", intLists(given), intLists(m))
	for i, list := range byteLists(m) {
		for k := range list {
			list[k] = 255
		}
		if im.Data[0] != 1 || im.Data[1] != 2 || in[0] != 3 {
			t.Errorf("writing into list %d of the machine reaches what was handed in", i)
		}
	}
	m.Code[0]++
	if im.Code[0] != want.Code[0] {
		t.Error("writing into Code of the machine reaches the image")
	}
}

func TestStartWithInput(t *testing.T) {
	for _, c := range []struct {
		bytes int
		ok    bool
	}{{0, true}, {9999, true}, {10000, true}, {10001, false}} {
		m, ok := impl.StartMachine(plainImage(), make([]byte, c.bytes))
		if ok != c.ok || ok && len(m.In) != c.bytes || !ok && !sameMachine(m, impl.Machine{}) {
			t.Errorf("%d bytes: %v, and %d of them", c.bytes, ok, len(m.In))
		}
	}
}

// machineEdges has each part of what makes a machine valid, at its edge and beyond.
var machineEdges = []struct {
	name   string
	change func(*impl.Machine)
	ok     bool
}{
	{"as it is", func(m *impl.Machine) {}, true},
	{"no word", func(m *impl.Machine) { m.Code = nil }, false},
	{"one word", func(m *impl.Machine) { m.Code = m.Code[:1] }, true},
	{"most words", func(m *impl.Machine) { m.Code = make([]int, 16384) }, true},
	{"too many words", func(m *impl.Machine) { m.Code = make([]int, 16385) }, false},
	{"greatest word", func(m *impl.Machine) { m.Code[1] = 4294967295 }, true},
	{"above a word", func(m *impl.Machine) { m.Code[1] = 4294967296 }, false},
	{"below a word", func(m *impl.Machine) { m.Code[1] = -1 }, false},
	{"no data", func(m *impl.Machine) { m.Data = nil }, true},
	{"most data", func(m *impl.Machine) { m.Data = make([]byte, 65536) }, true},
	{"too much data", func(m *impl.Machine) { m.Data = make([]byte, 65537) }, false},
	{"no stack", func(m *impl.Machine) { m.Stack = nil }, true},
	{"stack of 8", func(m *impl.Machine) { m.Stack = make([]byte, 8) }, false},
	{"stack of 15", func(m *impl.Machine) { m.Stack = make([]byte, 15) }, false},
	{"stack of 16", func(m *impl.Machine) { m.Stack = make([]byte, 16) }, true},
	{"most stack", func(m *impl.Machine) { m.Stack = make([]byte, 65536) }, true},
	{"too much stack", func(m *impl.Machine) { m.Stack = make([]byte, 65552) }, false},
	{"Pc at 0", func(m *impl.Machine) { m.Pc = 0 }, true},
	{"Pc at 1", func(m *impl.Machine) { m.Pc = 1 }, true},
	{"Pc below 0", func(m *impl.Machine) { m.Pc = -1 }, false},
	{"Pc the greatest word", func(m *impl.Machine) { m.Pc = 4294967295 }, true},
	{"Pc no word", func(m *impl.Machine) { m.Pc = 4294967296 }, false},
	{"no Regs", func(m *impl.Machine) { m.Regs = nil }, false},
	{"31 Regs", func(m *impl.Machine) { m.Regs = m.Regs[:31] }, false},
	{"33 Regs", func(m *impl.Machine) { m.Regs = append(m.Regs, 0) }, false},
	{"first one 1", func(m *impl.Machine) { m.Regs[0] = 1 }, false},
	{"first one 2^32", func(m *impl.Machine) { m.Regs[0] = 4294967296 }, false},
	{"one the greatest", func(m *impl.Machine) { m.Regs[1] = 4294967295 }, true},
	{"one 0", func(m *impl.Machine) { m.Regs[31] = 0 }, true},
	{"one above a word", func(m *impl.Machine) { m.Regs[31] = 4294967296 }, false},
	{"one below 0", func(m *impl.Machine) { m.Regs[1] = -1 }, false},
	{"no In", func(m *impl.Machine) { m.In = nil }, true},
	{"most In", func(m *impl.Machine) { m.In = make([]byte, 10000) }, true},
	{"too much In", func(m *impl.Machine) { m.In = make([]byte, 10001) }, false},
	{"no Out", func(m *impl.Machine) { m.Out = nil }, true},
	{"most Out", func(m *impl.Machine) { m.Out = make([]byte, 10000) }, true},
	{"too much Out", func(m *impl.Machine) { m.Out = make([]byte, 10001) }, false},
	{"Steps 1 below", func(m *impl.Machine) { m.Steps = 999999 }, true},
	{"most Steps", func(m *impl.Machine) { m.Steps = 1000000 }, true},
	{"too many Steps", func(m *impl.Machine) { m.Steps = 1000001 }, false},
	{"Steps below 0", func(m *impl.Machine) { m.Steps = -1 }, false},
	{"EndExit", func(m *impl.Machine) { m.End = impl.EndExit }, true},
	{"EndFault", func(m *impl.Machine) { m.End = impl.EndFault }, true},
	{"EndStack", func(m *impl.Machine) { m.End = impl.EndStack }, true},
	{"EndFuel", func(m *impl.Machine) { m.End = impl.EndFuel }, false},
	{"EndUndefined", func(m *impl.Machine) { m.End = impl.EndUndefined }, false},
	{"End below 0", func(m *impl.Machine) { m.End = -1 }, false},
	{"Value the greatest", func(m *impl.Machine) { m.Value = 4294967295 }, true},
	{"Value no word", func(m *impl.Machine) { m.Value = 4294967296 }, false},
	{"Value below 0", func(m *impl.Machine) { m.Value = -1 }, false},
}

// loopingMachine could go on for ever.
func loopingMachine() impl.Machine {
	return smallMachine(impl.Inst{Op: impl.OpAddi, Rd: 5, Rs1: 5, Imm: 1}, impl.Inst{Op: impl.OpJal, Imm: -4})
}

func TestMachinesThatAreValidAndNot(t *testing.T) {
	for _, c := range machineEdges {
		m := loopingMachine()
		c.change(&m)
		if impl.MachineOk(m) != c.ok {
			t.Errorf("%s: MachineOk is not %v", c.name, c.ok)
		}
	}
	if impl.MachineOk(impl.Machine{}) {
		t.Error("the machine of nothing is taken")
	}
}

// What may not go on: machines that are not valid, that have ended, or that have no steps left.
func TestMachinesGivenBackAsTheyAre(t *testing.T) {
	for _, c := range machineEdges {
		m := loopingMachine()
		c.change(&m)
		if c.ok && m.End == impl.EndNone && m.Steps < impl.MaxFuel {
			if got := untouched(t, c.name, m, impl.StepMachine); sameMachine(got, m) {
				t.Errorf("%s: a step did nothing", c.name)
			}
			continue
		}
		if got := untouched(t, c.name, m, impl.StepMachine); !sameMachine(got, m) {
			t.Errorf("%s: a step gave %v", c.name, got)
		}
		run := func(m impl.Machine) impl.Machine { return impl.RunMachine(m, 3) }
		if got := untouched(t, c.name, m, run); !sameMachine(got, m) {
			t.Errorf("%s: a run gave %v", c.name, got)
		}
	}
	if !sameMachine(impl.StepMachine(impl.Machine{}), impl.Machine{}) || !sameMachine(impl.RunMachine(impl.Machine{}, 9), impl.Machine{}) {
		t.Error("the machine of nothing is changed")
	}
}
