package tests

import (
	"math"
	"slices"
	"testing"

	"loop.example/s01681/impl"
)

const dataAt, stackEnd = impl.DataBase, impl.StackTop

var sizes = []int{0, 1, 1, 2, 2, 4}

// bytesAt gives the bytes of a stretch of addresses one by one; false when not all are in Data or all in the stack.
func bytesAt(m impl.Machine, at, size int) ([]byte, bool) {
	for i, list := range [][]byte{m.Data, m.Stack} {
		first := []int{dataAt, stackEnd - len(m.Stack)}[i]
		for from := range list {
			if first+from == at && from+size <= len(list) {
				return list[from : from+size], true
			}
		}
	}
	return nil, false
}

// widened reads the bytes as a number by hand, the highest bit copied upwards for the kinds with a sign.
func widened(kind int, bytes []byte) int {
	n := 0
	for i := len(bytes) - 1; i >= 0; i-- {
		n = n*256 + int(bytes[i])
	}
	if kind == impl.KindI8 && n >= 128 {
		n += 1<<32 - 256
	}
	if kind == impl.KindI16 && n >= 32768 {
		n += 1<<32 - 65536
	}
	return n
}

// faultAt says what is wrong with an access to a valid machine, in the document's order.
func faultAt(m impl.Machine, kind, at int) int {
	if kind < 1 || kind > 5 {
		return impl.FaultMemory
	}
	if at%sizes[kind] != 0 {
		return impl.FaultAlign
	}
	if _, ok := bytesAt(m, at, sizes[kind]); !ok {
		return impl.FaultMemory
	}
	return 0
}

func checkLoad(t *testing.T, m impl.Machine, kind, at int) {
	t.Helper()
	want, code := 0, faultAt(m, kind, at)
	if code == 0 {
		bytes, _ := bytesAt(m, at, sizes[kind])
		want = widened(kind, bytes)
	}
	if w, f := impl.LoadWord(m, kind, at); w != want || f != code {
		t.Errorf("load of kind %d at %d: %d and fault %d, want %d and %d", kind, at, w, f, want, code)
	}
}

func checkStore(t *testing.T, m impl.Machine, kind, at, w int) {
	t.Helper()
	want, code := roomyMachine(m), faultAt(m, kind, at)
	if code == 0 {
		bytes, _ := bytesAt(want, at, sizes[kind])
		for i := range bytes {
			bytes[i] = byte(uint64(w) >> (8 * i))
		}
	}
	fault := -1
	got := untouched(t, "store", m, func(m impl.Machine) impl.Machine {
		out, f := impl.StoreWord(m, kind, at, w)
		fault = f
		return out
	})
	if fault != code || !sameMachine(got, want) {
		t.Errorf("store of kind %d at %d: fault %d, want %d; %v", kind, at, fault, code, got)
	}
}

// placesAround are all addresses near the ends of Data, of the stack and of Code, and those where sums wrap round.
func placesAround(m impl.Machine) []int {
	places := []int{math.MinInt, math.MinInt + 1, math.MinInt + 4, math.MinInt + dataAt, math.MinInt + stackEnd, math.MaxInt, math.MaxInt - 3, math.MaxInt - 7,
		-4, -2, -1, 0, 1, 4, 65536, 4294967295, 4294967292, 4294967296, 4294967296 + dataAt, 4294967296 + stackEnd - 4, -dataAt}
	for _, end := range []int{dataAt, dataAt + len(m.Data), stackEnd - len(m.Stack), stackEnd} {
		for d := -9; d <= 9; d++ {
			places = append(places, end+d)
		}
	}
	return places
}

func TestLoadsAndStoresAtEachEdge(t *testing.T) {
	for _, size := range []int{0, 1, 2, 3, 5, 6, 7, 8, 12} {
		for _, stack := range []int{0, 16, 32} {
			m := smallMachine(impl.Inst{Op: impl.OpEcall})
			m.Data, m.Stack = m.Data[:size], m.Stack[:stack]
			for _, at := range placesAround(m) {
				for kind := -1; kind <= 6; kind++ {
					checkLoad(t, m, kind, at)
					checkStore(t, m, kind, at, 0x1_7c85_3ea9)
				}
			}
		}
	}
}

func TestLoadsAndStoresOfTheGreatestMachine(t *testing.T) {
	m := smallMachine(impl.Inst{Op: impl.OpEcall})
	m.Data, m.Stack = make([]byte, impl.MaxData), make([]byte, impl.MaxStack)
	m.Data[65535], m.Stack[0], m.Stack[65535] = 128, 129, 130
	for _, c := range []struct{ kind, at, w, fault int }{
		{impl.KindU8, dataAt + 65535, 128, 0}, {impl.KindW, dataAt + 65532, 128 << 24, 0}, {impl.KindU8, dataAt + 65536, 0, 4},
		{impl.KindW, stackEnd - 65536, 129, 0}, {impl.KindU8, stackEnd - 65537, 0, 4}, {impl.KindI16, stackEnd - 2, 0xffff8200, 0},
	} {
		if w, f := impl.LoadWord(m, c.kind, c.at); w != c.w || f != c.fault {
			t.Errorf("kind %d at %d: %d and %d", c.kind, c.at, w, f)
		}
		checkStore(t, m, c.kind, c.at, 1)
	}
}

func TestLoadsByHand(t *testing.T) {
	m := smallMachine(impl.Inst{Op: impl.OpEcall})
	m.Data = []byte{0x81, 0x82, 0x03, 0x84, 0x7f, 0x7f}
	for _, c := range []struct{ kind, at, w, fault int }{
		{impl.KindI8, dataAt, 0xffffff81, 0}, {impl.KindU8, dataAt, 0x81, 0}, {impl.KindI8, dataAt + 4, 0x7f, 0},
		{impl.KindI16, dataAt, 0xffff8281, 0}, {impl.KindU16, dataAt, 0x8281, 0}, {impl.KindI16, dataAt + 4, 0x7f7f, 0},
		{impl.KindW, dataAt, 0x84038281, 0}, {impl.KindW, dataAt + 4, 0, impl.FaultMemory}, {impl.KindI16, dataAt + 5, 0, impl.FaultAlign},
		{impl.KindW, dataAt + 6, 0, impl.FaultAlign}, {impl.KindW, dataAt - 1, 0, impl.FaultAlign}, {0, dataAt + 1, 0, impl.FaultMemory},
		{impl.KindW, -2, 0, impl.FaultAlign}, {impl.KindU16, math.MaxInt, 0, impl.FaultAlign}, {impl.KindU8, math.MinInt, 0, impl.FaultMemory},
	} {
		if w, f := impl.LoadWord(m, c.kind, c.at); w != c.w || f != c.fault {
			t.Errorf("kind %d at %d: %#x and %d, want %#x and %d", c.kind, c.at, w, f, c.w, c.fault)
		}
	}
}

func TestStoresByHand(t *testing.T) {
	m := smallMachine(impl.Inst{Op: impl.OpEcall})
	m.Data = make([]byte, 6)
	for _, c := range []struct {
		kind, at, w int
		data        []byte
	}{
		{impl.KindI8, dataAt + 5, -2, []byte{0, 0, 0, 0, 0, 254}}, {impl.KindU8, dataAt, 0x1ff, []byte{255, 0, 0, 0, 0, 0}},
		{impl.KindI16, dataAt + 2, 0x12345, []byte{0, 0, 0x45, 0x23, 0, 0}}, {impl.KindU16, dataAt + 4, math.MinInt + 7, []byte{0, 0, 0, 0, 7, 0}},
		{impl.KindW, dataAt, math.MaxInt, []byte{255, 255, 255, 255, 0, 0}}, {impl.KindW, dataAt, 0x9_8765_4321, []byte{0x21, 0x43, 0x65, 0x87, 0, 0}},
	} {
		got, f := impl.StoreWord(m, c.kind, c.at, c.w)
		if f != 0 || !slices.Equal(got.Data, c.data) || !slices.Equal(got.Stack, m.Stack) {
			t.Errorf("kind %d at %d of %d: fault %d, %v", c.kind, c.at, c.w, f, got.Data)
		}
	}
}

func TestMemoryOfMachinesThatAreNotValid(t *testing.T) {
	for _, c := range machineEdges {
		m := loopingMachine()
		c.change(&m)
		if c.ok {
			continue
		}
		for _, at := range []int{dataAt, dataAt + 1} {
			if w, f := impl.LoadWord(m, impl.KindW, at); w != 0 || f != impl.FaultMemory {
				t.Errorf("%s: a load gave %d and %d", c.name, w, f)
			}
			got := untouched(t, c.name, m, func(m impl.Machine) impl.Machine {
				out, f := impl.StoreWord(m, impl.KindW, at, 5)
				if f != impl.FaultMemory {
					t.Errorf("%s: a store gave the fault %d", c.name, f)
				}
				return out
			})
			if !sameMachine(got, m) {
				t.Errorf("%s: a store gave %v", c.name, got)
			}
		}
	}
}

// A machine that has ended still has its memory.
func TestMemoryBehindTheEnd(t *testing.T) {
	m := loopingMachine()
	m.End, m.Value, m.Steps, m.Pc = impl.EndFault, 4, impl.MaxFuel, 1
	checkLoad(t, m, impl.KindW, dataAt+8)
	checkStore(t, m, impl.KindW, stackEnd-16, 77)
}
