package tests

import (
	"bytes"
	"fmt"
	"strings"
	"testing"

	"loop.example/s01681/impl"
)

// runIr asks RunIr twice, with room behind all lists, and sees that these are as they were, that both answers are the
// same in new memory and what an Outcome can be, and that the second reading says the same.
func runIr(t *testing.T, ir impl.Ir, in string, fuel int) impl.Outcome {
	t.Helper()
	input := roomy([]byte(in))
	ask := func(given impl.Ir) impl.Outcome { return impl.RunIr(given, input, fuel) }
	o := unwrittenIr(t, ir, ask)
	again := unwrittenIr(t, ir, ask)
	if !bytes.Equal(input[:cap(input)], roomy([]byte(in))[:cap(input)]) {
		t.Errorf("%.300s: RunIr wrote into the input", irText(ir))
	}
	if !sameOutcome(o, again) {
		t.Errorf("%.300s: once %v, once %v", irText(ir), o, again)
	}
	if touch(o.Out, again.Out) || touch(o.Out, input) {
		t.Errorf("%.300s: what was written is not in new memory", irText(ir))
	}
	if !impl.IrOk(ir) || len(in) > impl.MaxIn || fuel < 0 || fuel > impl.MaxFuel {
		if !sameOutcome(o, impl.Outcome{End: impl.EndFault}) {
			t.Errorf("%.300s: %v", irText(ir), o)
		}
		return o
	}
	if by := runIrBy(ir, in, fuel); !sameOutcome(o, by) {
		t.Errorf("%.3000s\nwith %d: %v, by the second reading %v", irText(ir), fuel, o, by)
	}
	if !isIrOutcome(o, fuel) {
		t.Errorf("%.300s: %v", irText(ir), o)
	}
	return o
}

func isIrOutcome(o impl.Outcome, fuel int) bool {
	value := o.Value == 0
	switch o.End {
	case impl.EndExit:
		value = o.Value >= 0 && o.Value < 1<<32
	case impl.EndFault:
		value = o.Value == impl.FaultPc || o.Value == impl.FaultAlign || o.Value == impl.FaultMemory || o.Value == impl.FaultOut
	case impl.EndStack, impl.EndFuel:
	default:
		return false
	}
	return value && o.Steps >= 0 && o.Steps <= fuel && o.Depth >= 0 && o.Depth <= impl.MaxCalls && len(o.Out) <= impl.MaxOut
}

// ends sees how steps of a main end.
func ends(t *testing.T, end, value, steps int, text string) impl.Outcome {
	t.Helper()
	return endsOn(t, "", end, value, steps, text)
}

func endsOn(t *testing.T, in string, end, value, steps int, text string) impl.Outcome {
	t.Helper()
	o := runIr(t, mainOf(text), in, 70000)
	if o.End != end || o.Value != value || o.Steps != steps || o.Depth < 1 {
		t.Errorf("%.300s: %v, not end %d, %d after %d", text, o, end, value, steps)
	}
	return o
}

// gives sees that steps of a main, each of which counts 1, end with a number.
func gives(t *testing.T, value int, text string) {
	t.Helper()
	ends(t, impl.EndExit, value, len(stepsFrom(text)), text)
}

func TestRunIrBounds(t *testing.T) {
	valid, long := mainOf("ret -1"), strings.Repeat("i", impl.MaxIn)
	for _, c := range []struct {
		ok   bool
		ir   impl.Ir
		in   string
		fuel int
	}{
		{true, valid, "", 1}, {true, valid, "", impl.MaxFuel}, {true, valid, long, 1}, {true, valid, "i", 5},
		{false, valid, "", -1}, {false, valid, "", impl.MaxFuel + 1}, {false, valid, "", -1 << 63}, {false, valid, "", 1<<63 - 1}, {false, valid, long + "i", 5}, {false, valid, long + long, 5}, {false, valid, long + "i", -1},
		{false, impl.Ir{}, "", 5}, {false, impl.Ir{}, long + "i", -1}, {false, mainOf("num 0 0"), "", 5}, {false, mainOf("num 4 0; ret -1"), "", 5}, {false, mainOf("jump 3; ret -1"), "", 5},
	} {
		want := impl.Outcome{End: impl.EndFault}
		if c.ok {
			want = impl.Outcome{End: impl.EndExit, Steps: 1, Depth: 1}
		}
		if o := runIr(t, c.ir, c.in, c.fuel); !sameOutcome(o, want) {
			t.Errorf("%.200s, %d bytes, fuel %d: %v", irText(c.ir), len(c.in), c.fuel, o)
		}
	}
	// What is wrong in a function that is never called, or behind the end, is wrong too.
	for _, steps := range []string{"ret 9; ret -1", "num 9 0; ret -1", "call 0 f; ret -1"} {
		ir := mainOf("ret -1")
		ir.Funs[0].Code = stepsFrom(steps)
		if o := runIr(t, ir, "", 5); !sameOutcome(o, impl.Outcome{End: impl.EndFault}) {
			t.Errorf("%s: %v", steps, o)
		}
	}
	// Without fuel nothing is begun, but main is under way.
	if o := runIr(t, valid, "", 0); !sameOutcome(o, impl.Outcome{End: impl.EndFuel, Depth: 1}) {
		t.Errorf("no fuel: %v", o)
	}
}

// Each Op on registers, at the greatest and least words.
func TestRunIrOps(t *testing.T) {
	t.Parallel()
	gives(t, 0, "ret -1")
	gives(t, 0, "ret 3")
	for _, n := range edgeWords {
		gives(t, int(n), fmt.Sprintf("num 2 %d; ret 2", n))
		gives(t, int(n), fmt.Sprintf("num 2 %d; move 1 2; num 2 0; ret 1", n))
		gives(t, 0, fmt.Sprintf("num 2 %d; move 2 3; ret 2", n))
		gives(t, 0, fmt.Sprintf("num 2 %d; ret -1", n))
		for kind, want := range map[string]uint32{"i8": uint32(int32(int8(n))), "u8": uint32(uint8(n)), "i16": uint32(int32(int16(n))), "u16": uint32(uint16(n))} {
			gives(t, int(want), fmt.Sprintf("num 2 %d; narrow %s 1 2; ret 1", n, kind))
			gives(t, int(want), fmt.Sprintf("num 2 %d; narrow %s 2 2; ret 2", n, kind))
		}
		for _, m := range edgeWords {
			for op := 1; op <= 18; op++ {
				want := aluBy(op, int(n), int(m))
				gives(t, want, fmt.Sprintf("num 0 %d; num 1 %d; %s 3 0 1; ret 3", n, m, impl.OpName(op)))
				gives(t, want, fmt.Sprintf("num 0 %d; num 1 %d; %s 0 0 1; ret 0", n, m, impl.OpName(op)))
				gives(t, want, fmt.Sprintf("num 0 %d; num 1 %d; %s 1 0 1; ret 1", n, m, impl.OpName(op)))
			}
			for test, holds := range map[string]bool{"eq": n == m, "ne": n != m, "lt": int32(n) < int32(m), "ge": int32(n) >= int32(m), "ltu": n < m, "geu": n >= m} {
				text := fmt.Sprintf("num 0 %d; num 1 %d; if %s 0 1 7; num 2 1; ret 2; label 7; num 2 2; ret 2", n, m, test)
				ends(t, impl.EndExit, 1+oneIf(holds), 5+oneIf(holds), text)
			}
		}
	}
	for op := 1; op <= 18; op++ {
		gives(t, aluBy(op, 77, 77), "num 2 77; "+impl.OpName(op)+" 2 2 2; ret 2")
	}
}

// Labels and jumps: an IrLabel counts 1 each time it is come by.
func TestRunIrJumps(t *testing.T) {
	ends(t, impl.EndExit, 5, 4, "jump 3; num 0 9; label 3; num 0 5; ret 0")
	ends(t, impl.EndExit, 0, 6, "label 0; label 1; label 2; label 9; label 8; ret -1")
	ends(t, impl.EndExit, 0, 3, "jump 0; ret 1; label 0; ret -1")
	ends(t, impl.EndExit, 2, 4, "num 2 2; jump 9223372036854775807; label 9223372036854775807; ret 2")
	ends(t, impl.EndExit, 3, 2+5*4+1, "num 1 1; num 2 8; label 0; sub 2 2 1; num 0 3; if ne 2 0 0; ret 0")
	ends(t, impl.EndFuel, 0, 70000, "label 1; jump 1; ret -1")
	ends(t, impl.EndFuel, 0, 70000, "label 1; if eq 0 0 1; ret -1")
	ends(t, impl.EndExit, 0, 3, "label 1; if ne 0 0 1; ret -1")
	// Backwards and onwards.
	ends(t, impl.EndExit, 4, 8, "jump 1; label 2; num 0 4; jump 3; label 1; jump 2; label 3; ret 0")
}

// Addresses of data and functions, with what lies between and behind data.
func TestRunIrAddresses(t *testing.T) {
	gives(t, 1048576, "addr 0 d; ret 0")
	gives(t, 1048576+60000, "addr 0 d 60000; ret 0")
	gives(t, 65536, "addr 0 f; ret 0")
	gives(t, 65536+16, "addr 0 main; ret 0")
	gives(t, 65536+16+5, "addr 0 main 5; ret 0")
	ir := impl.Ir{
		Data: []impl.IrData{
			{Name: "a", Bytes: []byte{1}}, {Name: "b", Bytes: []byte{2, 3, 4, 5, 6}}, {Name: "c", Bytes: make([]byte, 8), Refs: []impl.IrRef{{At: 0, Sym: "b", N: 3}, {At: 4, Sym: "main", N: 0}}}, {Name: "$7", Bytes: []byte{7, 8, 9}},
		},
		Funs: []impl.IrFun{{Name: "g", Code: stepsFrom("ret -1")}, {Name: "main", Regs: 4}},
	}
	for name, want := range map[string]int{"a": 0, "b": 4, "c": 12, "$7": 20} {
		ir.Funs[1].Code = stepsFrom("addr 0 " + name + "; ret 0")
		if o := runIr(t, ir, "", 5); o.End != impl.EndExit || o.Value != 1048576+want {
			t.Errorf("%s lies at %v", name, o)
		}
	}
	for at, want := range []int{1, 0, 0, 0, 2, 3, 4, 5, 6, 0, 0, 0, 7, 0, 16, 0, 16, 0, 1, 0, 7, 8, 9, 0} {
		ir.Funs[1].Code = stepsFrom(fmt.Sprintf("num 0 %d; load u8 1 0; ret 1", 1048576+at))
		if o := runIr(t, ir, "", 5); o.End != impl.EndExit || o.Value != want {
			t.Errorf("byte %d is %v, not %d", at, o, want)
		}
		// All can be written, those between and behind data too.
		ir.Funs[1].Code = stepsFrom(fmt.Sprintf("num 0 %d; num 1 200; store u8 0 1; load u8 2 0; ret 2", 1048576+at))
		if o := runIr(t, ir, "", 5); o.End != impl.EndExit || o.Value != 200 {
			t.Errorf("byte %d is written: %v", at, o)
		}
	}
	for _, at := range []int{-1, 24} {
		for _, what := range []string{"load u8 1 0", "store u8 0 1"} {
			ir.Funs[1].Code = stepsFrom(fmt.Sprintf("num 0 %d; %s; ret 1", 1048576+at, what))
			if o := runIr(t, ir, "", 5); !sameOutcome(o, impl.Outcome{End: impl.EndFault, Value: impl.FaultMemory, Steps: 2, Depth: 1}) {
				t.Errorf("byte %d: %v", at, o)
			}
		}
	}
	// Data at both ends of what there may be.
	full := impl.Ir{Data: []impl.IrData{{Name: "a", Bytes: make([]byte, 60000)}, {Name: "b", Bytes: make([]byte, 5535)}}, Funs: []impl.IrFun{{Name: "main", Regs: 4}}}
	for at, fault := range map[int]int{0: 0, 65535: 0, 65536: impl.FaultMemory, 65534: 0} {
		full.Funs[0].Code = stepsFrom(fmt.Sprintf("num 0 %d; num 1 9; store u8 0 1; load u8 2 0; ret 2", 1048576+at))
		if o := runIr(t, full, "", 9); o.Value != max(fault, 9*oneIf(fault == 0)) || (o.End == impl.EndFault) != (fault != 0) {
			t.Errorf("byte %d of all data: %v", at, o)
		}
	}
	// Without data there is nothing at DataBase.
	none := impl.Ir{Funs: []impl.IrFun{{Name: "main", Regs: 1, Code: stepsFrom("num 0 1048576; load u8 0 0; ret 0")}}}
	if o := runIr(t, none, "", 9); o.End != impl.EndFault || o.Value != impl.FaultMemory {
		t.Errorf("no data: %v", o)
	}
}

// Loads and stores of each kind at and around the edges of the data and of the stack.
func TestRunIrMemory(t *testing.T) {
	t.Parallel()
	const dataEnd, stackBegin = 1048576 + 8, 2097152 - 65536
	for kind := 1; kind <= 5; kind++ {
		size, name := sizes[kind], kindTexts[kind]
		for _, edge := range []int{0, 4, 65536, 1048576, dataEnd, stackBegin, 2097152, 1<<31 - 4, 1 << 31, 1<<32 - 8} {
			for at := max(edge-5, 0); at <= min(edge+7, 1<<32-1); at++ {
				inside := at >= 1048576 && at+size <= dataEnd || at >= stackBegin && at+size <= 2097152
				fault := 0
				if at%size != 0 {
					fault = impl.FaultAlign
				} else if !inside {
					fault = impl.FaultMemory
				}
				for _, word := range []uint32{0, 0x7f, 0x80, 0x8000, 0xfedcba98, 0x12345678, 0xffffffff} {
					text := fmt.Sprintf("num 0 %d; num 1 %d; store %s 0 1; load %s 2 0; ret 2", at, word, name, name)
					if fault != 0 {
						ends(t, impl.EndFault, fault, 3, text)
						ends(t, impl.EndFault, fault, 2, fmt.Sprintf("num 0 %d; load %s 2 0; ret 2", at, name))
						break
					}
					ends(t, impl.EndExit, int(widenBy(kind, word)), 5, text)
				}
			}
		}
		// A store writes its own bytes alone.
		for at := 2097152 - 8; at < 2097152; at += size {
			for look := 2097152 - 8; look < 2097152; look++ {
				want := 255
				if look >= at && look < at+size {
					want = 0x78563412 >> (8 * (3 - (look - at))) & 255
				}
				gives(t, want, fmt.Sprintf("num 0 %d; num 1 4294967295; store w 0 1; num 0 %d; store w 0 1; num 0 %d; num 1 %d; store %s 0 1; num 0 %d; load u8 2 0; ret 2", 2097152-8, 2097152-4, at, 0x12345678, name, look))
			}
		}
	}
	// The whole stack can be read and written, whatever is taken, and is 0 at first.
	for _, at := range []int{stackBegin, stackBegin + 4, 2097152 - 4096, 2097152 - 4} {
		gives(t, 0, fmt.Sprintf("num 0 %d; load w 1 0; ret 1", at))
	}
}

// Copies: onto themselves, forwards, backwards, over each other, and beyond an edge.
func TestRunIrCopies(t *testing.T) {
	// The bytes 1 to 8 stand in slot 1, 8 bytes behind slot 0; each register is a place in it.
	const begin = "slot 0 1; num 1 67305985; store w 0 1; num 1 4; add 0 0 1; num 1 134678021; store w 0 1; slot 0 1; "
	const steps = 8
	for _, c := range []struct {
		from, to, size int
		want           string
	}{
		{0, 0, 8, "12345678"}, {0, 4, 4, "12341234"}, {4, 0, 4, "56785678"}, {0, 1, 4, "11111678"}, {1, 0, 4, "23455678"}, {0, 2, 5, "12121218"}, {2, 0, 5, "34567678"}, {3, 3, 5, "12345678"}, {7, 0, 1, "82345678"}, {0, 7, 1, "12345671"}, {0, 1, 7, "11111111"}, {1, 0, 7, "23456788"}, {0, 3, 1, "12315678"},
	} {
		got := ""
		for at := range 8 {
			text := begin + fmt.Sprintf("num 2 %d; add 2 0 2; num 3 %d; add 3 0 3; copy 3 2 %d; num 2 %d; add 2 0 2; load u8 1 2; ret 1", c.from, c.to, c.size, at)
			o := runIr(t, mainOf(text), "", 100)
			if o.End != impl.EndExit || o.Steps != steps+9+quarterBy(c.size) {
				t.Errorf("copy of %d: %v", c.size, o)
			}
			got += fmt.Sprint(o.Value)
		}
		if got != c.want {
			t.Errorf("%d bytes from %d to %d: %s, not %s", c.size, c.from, c.to, got, c.want)
		}
	}
	// What they count: 1, and a quarter of their bytes rounded up.
	for size, steps := range map[int]int{1: 2, 2: 2, 3: 2, 4: 2, 5: 3, 8: 3, 9: 4, 4096: 1025, 60000: 15001} {
		begin := fmt.Sprintf("num 0 %d; num 1 %d; ", 2097152-65536, 2097152-65536+5000)
		ends(t, impl.EndExit, 0, 3+steps, begin+fmt.Sprintf("copy 0 1 %d; ret -1", size))
		ends(t, impl.EndExit, 0, 3+steps, begin+fmt.Sprintf("zero 0 %d; ret -1", size))
	}
	// No address is wrong for its alignment; each byte must be there.
	const stackBegin, dataEnd = 2097152 - 65536, 1048576 + 8
	for _, c := range []struct{ at, size, fault int }{
		{1048577, 7, 0}, {1048577, 8, impl.FaultMemory}, {1048575, 1, impl.FaultMemory}, {1048575, 2, impl.FaultMemory}, {1048576, 8, 0}, {1048576, 9, impl.FaultMemory}, {dataEnd - 1, 1, 0}, {dataEnd, 1, impl.FaultMemory}, {stackBegin, 60000, 0}, {stackBegin - 1, 1, impl.FaultMemory}, {2097151, 1, 0}, {2097151, 2, impl.FaultMemory}, {2097152, 1, impl.FaultMemory}, {0, 1, impl.FaultMemory}, {1<<32 - 1, 1, impl.FaultMemory}, {1<<32 - 1, 60000, impl.FaultMemory}, {65536, 4, impl.FaultMemory}, {2097152 - 60000, 60000, 0}, {2097152 - 59999, 60000, impl.FaultMemory},
	} {
		end, cost, value := impl.EndExit, 3+1+quarterBy(c.size), 0
		if c.fault != 0 {
			end, cost, value = impl.EndFault, cost-1, c.fault
		}
		ends(t, end, value, cost, fmt.Sprintf("num 0 %d; num 1 %d; zero 0 %d; ret -1", c.at, stackBegin, c.size))
		ends(t, end, value, cost, fmt.Sprintf("num 0 %d; num 1 %d; copy 0 1 %d; ret -1", c.at, stackBegin, c.size))
		ends(t, end, value, cost, fmt.Sprintf("num 0 %d; num 1 %d; copy 1 0 %d; ret -1", c.at, stackBegin, c.size))
	}
	// Zeros.
	ends(t, impl.EndExit, 0xff000000, 7, "slot 0 0; num 1 4294967295; store w 0 1; zero 0 3; load w 2 0; ret 2")
	ends(t, impl.EndExit, 0xff0000ff, 9, "slot 0 0; num 1 4294967295; store w 0 1; num 2 1; add 3 0 2; zero 3 2; load w 2 0; ret 2")
}

// slotted makes a code of a main with these slots and steps, beside functions of other slots.
func slotted(slots []int, steps string, others ...impl.IrFun) impl.Ir {
	return impl.Ir{Funs: append([]impl.IrFun{{Name: "main", Regs: 6, Slots: slots, Code: stepsFrom(steps)}}, others...)}
}

func TestRunIrSlots(t *testing.T) {
	at := func(ir impl.Ir) int {
		o := runIr(t, ir, "", 100)
		if o.End != impl.EndExit {
			t.Errorf("%s: %v", irText(ir), o)
		}
		return o.Value
	}
	// Each slot is made a multiple of 4, all together one of 16, and the first lies lowest.
	for _, c := range []struct {
		slots  []int
		places []int
	}{
		{[]int{1}, []int{-16}}, {[]int{16}, []int{-16}}, {[]int{17}, []int{-32}}, {[]int{4, 4}, []int{-16, -12}}, {[]int{1, 1, 1, 1}, []int{-16, -12, -8, -4}}, {[]int{1, 1, 1, 1, 1}, []int{-32, -28, -24, -20, -16}}, {[]int{5, 8}, []int{-16, -8}}, {[]int{5, 9}, []int{-32, -24}}, {[]int{13, 3, 4}, []int{-32, -16, -12}}, {[]int{60000, 5536}, []int{-65536, -5536}}, {[]int{60000, 5533}, []int{-65536, -5536}}, {[]int{60000, 5521}, []int{-65536, -5536}}, {[]int{3, 60000}, []int{-60016, -60012}},
	} {
		for n, place := range c.places {
			if got := at(slotted(c.slots, fmt.Sprintf("slot 0 %d; ret 0", n))); got != 2097152+place {
				t.Errorf("slot %d of %v lies at %d", n, c.slots, got-2097152)
			}
		}
	}
	many := []int{}
	for range impl.MaxSlots {
		many = append(many, 5)
	}
	if got := at(slotted(many, "slot 0 199; slot 1 0; sub 2 0 1; ret 2")); got != 199*8 {
		t.Errorf("the last of 200 slots is %d behind the first", got)
	}
	// A call's slots lie below those that are taken; behind it they are free again.
	f := impl.IrFun{Name: "f", Regs: 1, Slots: []int{20}, Code: stepsFrom("slot 0 0; ret 0")}
	g := impl.IrFun{Name: "g", Regs: 1, Slots: []int{1}, Code: stepsFrom("call 0 f; ret 0")}
	h := impl.IrFun{Name: "h", Regs: 1, Code: stepsFrom("call 0 f; ret 0")}
	for steps, want := range map[string]int{"call 0 f; ret 0": -48, "call 0 g; ret 0": -64, "call 0 h; ret 0": -48, "call 0 f; call 0 f; ret 0": -48, "call 0 g; call 0 f; ret 0": -48, "call 0 f; call 0 g; ret 0": -64} {
		if got := at(slotted([]int{8}, steps, f, g, h)); got != 2097152+want {
			t.Errorf("%s: %d", steps, got-2097152)
		}
	}
	// The bytes are 0 at first, and what stood there when they are taken again.
	count := impl.IrFun{Name: "f", Regs: 3, Slots: []int{4}, Code: stepsFrom("slot 0 0; load w 1 0; num 2 1; add 1 1 2; store w 0 1; ret 1")}
	if got := at(slotted(nil, "call 0 f; call 0 f; call 0 f; ret 0", count)); got != 3 {
		t.Errorf("taken again: %d", got)
	}
	left := impl.IrFun{Name: "f", Regs: 2, Slots: []int{8, 8}, Code: stepsFrom("slot 0 1; num 1 77; store w 0 1; ret -1")}
	look := impl.IrFun{Name: "g", Regs: 2, Slots: []int{4, 4, 4}, Code: stepsFrom("slot 0 2; load w 1 0; ret 1")}
	if got := at(slotted(nil, "call 0 f; call 0 g; ret 0", left, look)); got != 77 {
		t.Errorf("what another left: %d", got)
	}
	if got := at(slotted(nil, "call 0 g; ret 0", left, look)); got != 0 {
		t.Errorf("at first: %d", got)
	}
	// Registers are 0 at first each time, but for params.
	fresh := impl.IrFun{Name: "f", Params: 2, Regs: 4, Code: stepsFrom("add 2 2 3; num 3 9; add 0 0 1; add 0 0 2; num 2 50; ret 0")}
	if got := at(slotted(nil, "num 0 3; num 1 4; call 2 f 0 1; call 3 f 0 2; ret 3", fresh)); got != 10 {
		t.Errorf("registers: %d", got)
	}
	// A caller's registers and slots stay as they are.
	busy := impl.IrFun{Name: "f", Params: 1, Regs: 6, Slots: []int{64}, Code: stepsFrom("slot 1 0; zero 1 64; num 0 1; num 2 2; num 3 3; num 4 4; num 5 5; ret 5")}
	if got := at(slotted([]int{4}, "slot 0 0; num 1 1234; store w 0 1; num 2 100; call -1 f 2; load w 3 0; add 3 3 2; add 3 3 1; ret 3", busy)); got != 1234+1234+100 {
		t.Errorf("the caller's: %d", got)
	}
}

// Room for slots that is just there, and that is not; nothing is begun then, and no call is under way.
func TestRunIrRoom(t *testing.T) {
	for _, c := range []struct {
		slots []int
		end   int
	}{
		{[]int{60000, 5536}, impl.EndExit}, {[]int{60000, 5537}, impl.EndStack}, {[]int{60000, 5536, 1}, impl.EndStack}, {[]int{60000, 5532, 4}, impl.EndExit}, {[]int{60000, 5532, 5}, impl.EndStack}, {[]int{60000, 60000}, impl.EndStack}, {[]int{60000, 5521}, impl.EndExit},
	} {
		want := impl.Outcome{End: c.end, Steps: oneIf(c.end == impl.EndExit), Depth: oneIf(c.end == impl.EndExit)}
		if o := runIr(t, slotted(c.slots, "ret -1"), "", 5); !sameOutcome(o, want) {
			t.Errorf("%v: %v", c.slots, o)
		}
		if o := runIr(t, slotted(c.slots, "ret -1"), "", 0); c.end == impl.EndStack && !sameOutcome(o, want) {
			t.Errorf("%v without fuel: %v", c.slots, o)
		}
		// The same in a call: main has the rest.
		for _, call := range []string{"call 0 f; ret 0", "addr 1 f; callr 0 1; ret 0"} {
			f := impl.IrFun{Name: "f", Slots: c.slots[1:], Code: stepsFrom("ret -1")}
			o := runIr(t, slotted(c.slots[:1], call, f), "", 9)
			if o.End != c.end || o.Depth != 1+oneIf(c.end == impl.EndExit) || o.Value != 0 {
				t.Errorf("%v, %s: %v", c.slots, call, o)
			}
		}
	}
	// So many calls as there is room for: each takes 96 bytes, the last 16 are left over or taken.
	deep := impl.IrFun{Name: "f", Regs: 1, Slots: []int{90}, Code: stepsFrom("call 0 f; ret 0")}
	if o := runIr(t, slotted(nil, "call 0 f; ret 0", deep), "", 2000); !sameOutcome(o, impl.Outcome{End: impl.EndStack, Steps: 65536/96 + 1, Depth: 65536/96 + 1}) {
		t.Errorf("as far as there is room: %v", o)
	}
	// Calls that come back give their room back.
	leaf := impl.IrFun{Name: "f", Slots: []int{60000}, Code: stepsFrom("ret -1")}
	if o := runIr(t, slotted([]int{5000}, "num 1 1; num 2 50; label 0; call -1 f; sub 2 2 1; if ne 2 3 0; ret 2", leaf), "", 2000); o.End != impl.EndExit || o.Depth != 2 {
		t.Errorf("one after the other: %v", o)
	}
	// Without slots a call takes nothing.
	bare := impl.IrFun{Name: "f", Params: 1, Regs: 3, Code: stepsFrom("if eq 0 1 0; num 2 1; sub 0 0 2; call 0 f 0; label 0; ret 0")}
	if o := runIr(t, slotted([]int{60000, 5536}, "num 0 900; call 0 f 0; ret 0", bare), "", 10000); o.End != impl.EndExit || o.Depth != 902 {
		t.Errorf("no slots: %v", o)
	}
}

func TestRunIrCalls(t *testing.T) {
	ends(t, impl.EndExit, 14, 5, "num 0 7; call 1 f 0; ret 1")
	ends(t, impl.EndExit, 7, 5, "num 0 7; call -1 f 0; ret 0")
	ends(t, impl.EndExit, 14, 5, "num 0 7; call 0 f 0; ret 0")
	ends(t, impl.EndExit, 14, 6, "num 0 7; addr 3 f; callr 1 3 0; ret 1")
	ends(t, impl.EndExit, 7, 6, "num 0 7; addr 3 f; callr -1 3 0; ret 0")
	ends(t, impl.EndExit, 14, 6, "num 0 7; num 3 65536; callr 3 3 0; ret 3")
	ends(t, impl.EndExit, 2*65536, 5, "addr 3 f; callr 1 3 3; ret 1")
	// Addresses that are no function's, or of one with another number of params.
	for _, at := range []int{0, 1, 65535, 65537, 65538, 65540, 65544, 65551, 65552, 65553, 65567, 65568, 65536 + 300*16, 1048576, 2097152, 1 << 31, 1<<32 - 16, 1<<32 - 1} {
		for args := range 4 {
			fault := at != 65536 || args != 1
			if at == 65552 && args == 0 {
				// That is main itself.
				continue
			}
			text := fmt.Sprintf("num 0 %d; callr 1 0%s; ret 1", at, strings.Repeat(" 2", args))
			if fault {
				ends(t, impl.EndFault, impl.FaultPc, 2, text)
			} else {
				ends(t, impl.EndExit, 0, 5, text)
			}
		}
	}
	ends(t, impl.EndStack, 0, 2000, "num 0 65552; callr 1 0; ret 1")
	ends(t, impl.EndExit, 14, 6, "num 0 7; addr 3 f 0; callr 1 3 0; ret 1")
	ends(t, impl.EndFault, impl.FaultPc, 3, "num 0 7; addr 3 f 1; callr 1 3 0; ret 1")
	ends(t, impl.EndFault, impl.FaultPc, 3, "num 0 7; addr 3 d; callr 1 3 0; ret 1")
	// main by its address, reckoned from another function's.
	ends(t, impl.EndStack, 0, 2000, "addr 3 f 16; callr 1 3; ret 1")
	// A function without a result gives 0, and one that ends early what it returns there.
	for _, c := range []struct {
		code        string
		value, cost int
	}{{"ret -1", 0, 1}, {"ret 0", 5, 1}, {"ret 0; num 0 1; ret 0", 5, 1}, {"num 1 8; if ltu 0 1 3; ret 1; label 3; ret 0", 5, 4}, {"call 0 f 1; ret 0", 0, 0}} {
		ir := mainOf("num 0 5; num 1 9; call 1 f 0; ret 1")
		ir.Funs[0].Code = stepsFrom(c.code)
		o := runIr(t, ir, "", 3000)
		if c.cost == 0 {
			if o.End != impl.EndStack || o.Depth != impl.MaxCalls {
				t.Errorf("%s: %v", c.code, o)
			}
		} else if o.End != impl.EndExit || o.Value != c.value || o.Steps != 4+c.cost || o.Depth != 2 {
			t.Errorf("%s: %v", c.code, o)
		}
	}
	// As many params as there can be, in their order.
	eight := impl.IrFun{Name: "f", Params: 8, Regs: 9, Code: stepsFrom("sll 0 0 7; sub 0 0 1; mul 0 0 2; sub 0 0 3; mul 0 0 4; sub 0 0 5; sub 0 0 6; sub 0 0 8; ret 0")}
	ir := impl.Ir{Funs: []impl.IrFun{eight, {Name: "main", Regs: 9, Code: stepsFrom("num 0 3; num 1 5; num 2 7; num 3 11; num 4 13; num 5 17; num 6 19; num 7 2; call 8 f 0 1 2 3 4 5 6 7; ret 8")}}}
	if o := runIr(t, ir, "", 100); o.Value != ((3<<2-5)*7-11)*13-17-19 || o.Steps != 19 {
		t.Errorf("eight: %v", o)
	}
	ir.Funs[1].Code = stepsFrom("num 1 1; call 0 f 1 1 1 1 1 1 1 1; addr 2 f; callr 3 2 1 1 1 1 1 1 1 1; sub 0 0 3; ret 0")
	if o := runIr(t, ir, "", 100); o.Value != 0 || o.End != impl.EndExit {
		t.Errorf("the same: %v", o)
	}
}

// Depth: the greatest number of calls under way; MaxCalls calls and one more.
func TestRunIrDepth(t *testing.T) {
	down := func(n int) impl.Ir {
		f := impl.IrFun{Name: "f", Params: 1, Regs: 3, Code: stepsFrom("if eq 0 1 0; num 2 1; sub 0 0 2; call 0 f 0; label 0; ret 0")}
		return impl.Ir{Funs: []impl.IrFun{f, {Name: "main", Regs: 1, Code: stepsFrom(fmt.Sprintf("num 0 %d; call 0 f 0; ret 0", n))}}}
	}
	for n, depth := range map[int]int{0: 2, 1: 3, 5: 7, 997: 999, 998: 1000} {
		if o := runIr(t, down(n), "", 10000); o.End != impl.EndExit || o.Depth != depth || o.Steps != 6+6*n {
			t.Errorf("%d: %v", n, o)
		}
	}
	for _, n := range []int{999, 1000, 5000} {
		// The call that is one too many has counted, what it would call has not begun.
		if o := runIr(t, down(n), "", 10000); !sameOutcome(o, impl.Outcome{End: impl.EndStack, Steps: 2 + 999*4, Depth: 1000}) {
			t.Errorf("%d: %v", n, o)
		}
	}
	ends(t, impl.EndStack, 0, 1000, "call 0 main; ret 0")
	ends(t, impl.EndStack, 0, 2000, "addr 0 main; callr 0 0; ret 0")
	if o := ends(t, impl.EndExit, 0, 7, "call 0 f 0; call 0 f 0; ret 0"); o.Depth != 2 {
		t.Errorf("one after the other: %v", o)
	}
	for _, text := range []string{"ret -1", "call 0 putchar 0; ret -1", "call 0 getchar; ret -1", "call 0 exit 1; ret -1"} {
		if o := runIr(t, mainOf(text), "", 10); o.Depth != 1 || o.End != impl.EndExit {
			t.Errorf("%s: %v", text, o)
		}
	}
	// The three are no calls under way: they can be called at the bottom.
	ir := down(998)
	ir.Funs[0].Code = stepsFrom("if eq 0 1 0; num 2 1; sub 0 0 2; call 0 f 0; label 0; num 2 66; call -1 putchar 2; call 1 getchar; ret 1")
	if o := runIr(t, ir, "xyz", 20000); o.End != impl.EndExit || len(o.Out) != 999 || o.Depth != 1000 {
		t.Errorf("at the bottom: %v", o)
	}
}

func TestRunIrInputAndOutput(t *testing.T) {
	for w, want := range map[int]byte{0: 0, 65: 65, 255: 255, 256: 0, 321: 65, 1<<32 - 1: 255, 1 << 31: 0} {
		o := ends(t, impl.EndExit, w, 3, fmt.Sprintf("num 0 %d; call 1 putchar 0; ret 1", w))
		if string(o.Out) != string([]byte{want}) {
			t.Errorf("%d: %q", w, o.Out)
		}
		ends(t, impl.EndExit, w, 2, fmt.Sprintf("num 0 %d; call 1 exit 0; ret -1", w))
		ends(t, impl.EndExit, w, 2, fmt.Sprintf("num 0 %d; call -1 exit 0; ret -1", w))
	}
	endsOn(t, "a", impl.EndExit, 97, 2, "call 0 getchar; ret 0")
	endsOn(t, "ab", impl.EndExit, 98, 3, "call -1 getchar; call 0 getchar; ret 0")
	endsOn(t, "\xff\x00", impl.EndExit, 255, 2, "call 0 getchar; ret 0")
	endsOn(t, "\x00", impl.EndExit, 0, 3, "num 0 5; call 0 getchar; ret 0")
	endsOn(t, "", impl.EndExit, 1<<32-1, 2, "call 0 getchar; ret 0")
	endsOn(t, "a", impl.EndExit, 1<<32-1, 3, "call -1 getchar; call 0 getchar; ret 0")
	endsOn(t, "a", impl.EndExit, 1<<32-1, 4, "call -1 getchar; call -1 getchar; call 0 getchar; ret 0")
	// Registers stay where no result is asked for.
	endsOn(t, "a", impl.EndExit, 7, 4, "num 0 7; call -1 getchar; call -1 putchar 0; ret 0")
	// exit within calls, with what was written; nothing behind it is done.
	ir := mainOf("num 0 66; call -1 f 0; call -1 putchar 0; ret 0")
	ir.Funs[0].Code = stepsFrom("call 1 putchar 0; call -1 exit 1; call 1 putchar 0; ret 1")
	if o := runIr(t, ir, "", 100); !sameOutcome(o, impl.Outcome{End: impl.EndExit, Value: 66, Out: []byte("B"), Steps: 4, Depth: 2}) {
		t.Errorf("exit in a call: %v", o)
	}
	// All of the input, byte by byte.
	in := strings.Repeat("0123456789", impl.MaxIn/10)
	echo := "num 3 4294967295; label 0; call 0 getchar; if eq 0 3 1; call -1 putchar 0; jump 0; label 1; ret 0"
	if o := runIr(t, mainOf(echo), in, impl.MaxFuel); o.End != impl.EndExit || string(o.Out) != in || o.Steps != 1+5*impl.MaxIn+5 {
		t.Errorf("echo: end %d, %d bytes, %d steps", o.End, len(o.Out), o.Steps)
	}
	// MaxOut bytes, and one more.
	for count, end := range map[int]int{impl.MaxOut - 1: impl.EndExit, impl.MaxOut: impl.EndExit, impl.MaxOut + 1: impl.EndFault} {
		text := fmt.Sprintf("num 0 %d; num 1 1; label 0; call -1 putchar 0; sub 0 0 1; if ne 0 2 0; ret 0", count)
		o := runIr(t, mainOf(text), "", impl.MaxFuel)
		if o.End != end || len(o.Out) != min(count, impl.MaxOut) || o.Value != impl.FaultOut*oneIf(end == impl.EndFault) {
			t.Errorf("%d bytes: end %d, %d, %d bytes", count, o.End, o.Value, len(o.Out))
		}
	}
}

// Value is 0 where nothing is said, and what was written stands beside each end.
func TestRunIrValues(t *testing.T) {
	begin := "num 0 65; call -1 putchar 0; "
	for _, c := range []struct {
		end, value int
		text       string
	}{
		{impl.EndExit, 65, "ret 0"}, {impl.EndExit, 0, "ret -1"}, {impl.EndExit, 65, "call -1 exit 0; ret -1"}, {impl.EndFault, impl.FaultPc, "callr 0 0; ret -1"}, {impl.EndFault, impl.FaultAlign, "load w 0 0; ret -1"}, {impl.EndFault, impl.FaultMemory, "load u8 0 0; ret -1"}, {impl.EndFault, impl.FaultAlign, "store i16 0 0; ret -1"}, {impl.EndFault, impl.FaultMemory, "store i8 0 0; ret -1"}, {impl.EndFault, impl.FaultMemory, "copy 0 0 1; ret -1"}, {impl.EndFault, impl.FaultMemory, "zero 0 1; ret -1"}, {impl.EndFuel, 0, "label 9; jump 9; ret 0"}, {impl.EndStack, 0, "call 0 g; ret 0"},
	} {
		ir := mainOf("ret -1")
		ir.Funs = append(ir.Funs, impl.IrFun{Name: "g", Slots: []int{60000, 60000}, Code: stepsFrom("ret -1")})
		ir.Funs[1].Code = stepsFrom(begin + c.text)
		if o := runIr(t, ir, "", 500); o.End != c.end || o.Value != c.value || string(o.Out) != "A" || o.Depth != 1 {
			t.Errorf("%s: %v", c.text, o)
		}
	}
}

// atEachIrFuel runs a code with every fuel up to its Steps and one more: promise 22 for RunIr.
func atEachIrFuel(t *testing.T, ir impl.Ir, in string, most int) impl.Outcome {
	t.Helper()
	full := runIr(t, ir, in, most)
	last := impl.Outcome{}
	for fuel := 0; fuel <= full.Steps+1 && fuel <= most; fuel++ {
		o := impl.RunIr(ir, []byte(in), fuel)
		if by := runIrBy(ir, in, fuel); !sameOutcome(o, by) {
			t.Errorf("%.1500s\nwith %d: %v, by the second reading %v", irText(ir), fuel, o, by)
		}
		if fuel < full.Steps && (o.End != impl.EndFuel || o.Steps != fuel || o.Value != 0) {
			t.Errorf("%.1000s\nwith %d of %d: %v", irText(ir), fuel, full.Steps, o)
		}
		if fuel >= full.Steps && full.End != impl.EndFuel && !sameOutcome(o, full) {
			t.Errorf("%.1000s\nwith %d of %d: %v, not %v", irText(ir), fuel, full.Steps, o, full)
		}
		if fuel > 0 && (o.Depth < last.Depth || !bytes.HasPrefix(o.Out, last.Out) || o.Depth > full.Depth || !bytes.HasPrefix(full.Out, o.Out)) {
			t.Errorf("%.1000s\nwith %d: %v, with one less %v", irText(ir), fuel, o, last)
		}
		last = o
	}
	return full
}

func TestRunIrEachFuel(t *testing.T) {
	t.Parallel()
	for _, text := range []string{
		"ret -1", "num 0 1; ret 0", "num 0 65; label 1; call -1 putchar 0; call 0 getchar; ret 0", "slot 0 0; slot 1 1; zero 0 1; zero 0 5; copy 0 1 4; copy 1 0 5; copy 0 1 8; ret -1", "num 0 9; call 1 f 0; addr 2 f; callr 3 2 1; ret 3", "num 0 5; num 1 1; label 0; call -1 putchar 0; sub 0 0 1; if ne 0 2 0; ret 0", "num 0 3; call -1 exit 0; ret -1", "addr 0 d; load w 1 0; load u8 2 1; store u8 0 2; ret 2", "num 0 1; load w 0 0; ret 0", "num 0 1; zero 0 40; ret 0", "copy 0 1 7; ret 0", "num 0 3; callr 0 0; ret 0", "call 0 main; ret 0", "jump 2; label 1; ret 0; label 2; if eq 0 0 1; ret 1", "narrow i8 0 1; sub 0 0 1; move 2 0; ret 2", "slot 0 1; num 1 200; store u8 0 1; load i8 2 0; call -1 exit 2; ret -1",
	} {
		atEachIrFuel(t, mainOf(text), "xy", 3000)
	}
	// What a copy counts is there or not there as a whole.
	for fuel, out := range map[int]string{3: "A", 4: "A", 5: "A", 6: "A", 7: "A", 8: "AA"} {
		o := runIr(t, mainOf("num 0 65; call -1 putchar 0; slot 1 0; zero 1 9; call -1 putchar 0; ret 0"), "", fuel)
		if string(o.Out) != out || o.Steps != fuel || o.End != impl.EndFuel {
			t.Errorf("fuel %d: %v", fuel, o)
		}
	}
	// MaxFuel is enough for just so many, and not for one more.
	for rest, end := range map[int]int{0: impl.EndExit, 1: impl.EndFuel} {
		// 2 in front, 4 a round, and one at the end.
		rounds := (impl.MaxFuel - 4) / 4
		text := fmt.Sprintf("num 0 %d; num 1 1; label 0; sub 0 0 1; label 1; if ne 0 2 0; ", rounds) + strings.Repeat("num 3 3; ", impl.MaxFuel-2-4*rounds-1+rest) + "ret 0"
		if o := runIr(t, mainOf(text), "", impl.MaxFuel); o.End != end || o.Steps != impl.MaxFuel {
			t.Errorf("%d more: %v", rest, o)
		}
	}
}
