package tests

import (
	"fmt"
	"strings"
	"testing"

	"loop.example/s01681/impl"
)

// amid is a code whose main has steps between the labels 1000 and 1001. The registers 0, 1 and 2 are used last, and so have
// the spills 0, 1 and 2; 3, 4 and 5 are in t6, s1 and s2, or in s4, s5 and s6 when there is a call. The slots lie behind
// spills of 12 bytes, or of 28.
func amid(steps string) impl.Ir {
	all := setting(0, 19) + "label 1000;" + steps + "; label 1001;" + using(upTo(3, 19)...) + using(2, 1, 0) + "ret -1"
	ir := impl.Ir{
		Data: []impl.IrData{{Name: "d", Bytes: []byte{7}}},
		Funs: []impl.IrFun{{Name: "main", Regs: 19, Slots: []int{5, 2020, 8}, Code: stepsFrom(all)}, {Name: "f", Code: stepsFrom("ret -1")}, {Name: "g", Params: 8, Regs: 8, Code: stepsFrom("ret -1")}},
	}
	for params := 1; params < 8; params++ {
		ir.Funs = append(ir.Funs, impl.IrFun{Name: fmt.Sprint("g", params), Params: params, Regs: params, Code: stepsFrom("ret -1")})
	}
	return ir
}

// middle gives what stands between the labels 1000 and 1001 of main. The names of steps in it count from 20 on.
func middle(t *testing.T, ir impl.Ir) string {
	t.Helper()
	text := funLines(t, ir, 0, 4096)
	_, text, ok := strings.Cut(text, ".L0_1000:; ")
	text, _, ends := strings.Cut(text, ".L0_1001:")
	if !ok || !ends {
		t.Errorf("%.1000s has no labels around its steps", irText(ir))
	}
	return strings.TrimSuffix(text, "; ")
}

// writes sees the lines of steps in amid.
func writes(t *testing.T, steps, want string) {
	t.Helper()
	if got := middle(t, amid(steps)); got != want {
		t.Errorf("%s:\n%s\nnot\n%s", steps, got, want)
	}
}

func TestEmitNumAndMove(t *testing.T) {
	t.Parallel()
	writes(t, "num 3 7", "li t6, 7")
	writes(t, "num 0 7", "li t0, 7; sw t0, 0(sp)")
	writes(t, "num 2 0", "li t0, 0; sw t0, 8(sp)")
	for _, n := range []int{0, 1, 2047, 2048, 4095, 65536, 1<<31 - 1, 1 << 31, 1<<32 - 2049, 1<<32 - 2048, 1<<32 - 1} {
		writes(t, fmt.Sprint("num 4 ", n), fmt.Sprint("li s1, ", n))
		writes(t, fmt.Sprint("num 1 ", n), fmt.Sprint("li t0, ", n, "; sw t0, 4(sp)"))
	}
	writes(t, "move 3 4", "mv t6, s1")
	writes(t, "move 3 0", "lw t0, 0(sp); mv t6, t0")
	writes(t, "move 0 3", "mv t0, t6; sw t0, 0(sp)")
	writes(t, "move 0 1", "lw t0, 4(sp); sw t0, 0(sp)")
}

func TestEmitMoveToItself(t *testing.T) {
	t.Parallel()
	writes(t, "move 3 3", "")
	writes(t, "move 0 0", "lw t0, 0(sp); sw t0, 0(sp)")
	writes(t, "move 3 3; move 4 4; num 3 1; move 3 3", "li t6, 1")
	writes(t, "move 3 3; call -1 f; move 3 3", "call C.f")
	writes(t, "move 0 0; call 0 f; move 0 0", "lw t0, 0(sp); sw t0, 0(sp); call C.f; mv t0, a0; sw t0, 0(sp); lw t0, 0(sp); sw t0, 0(sp)")
	// Registers that are one machine register at different steps are moved through others alone.
	text := funLines(t, alone(3, nil, "num 0 1; move 1 0; move 2 1; ret 2"), 0, 0)
	if !strings.Contains(text, "li t3, 1; mv t4, t3; mv t3, t4; mv a0, t3;") {
		t.Error(text)
	}
}

func TestEmitAlu(t *testing.T) {
	t.Parallel()
	for _, op := range strings.Fields("add sub sll slt sltu xor srl sra or and mul mulh mulhsu mulhu div divu rem remu") {
		writes(t, op+" 3 4 5", op+" t6, s1, s2")
		writes(t, op+" 3 4 1", "lw t1, 4(sp); "+op+" t6, s1, t1")
		writes(t, op+" 3 1 4", "lw t0, 4(sp); "+op+" t6, t0, s1")
		writes(t, op+" 3 1 2", "lw t0, 4(sp); lw t1, 8(sp); "+op+" t6, t0, t1")
		writes(t, op+" 0 4 5", op+" t0, s1, s2; sw t0, 0(sp)")
		writes(t, op+" 0 4 1", "lw t1, 4(sp); "+op+" t0, s1, t1; sw t0, 0(sp)")
		writes(t, op+" 0 1 4", "lw t0, 4(sp); "+op+" t0, t0, s1; sw t0, 0(sp)")
		writes(t, op+" 0 1 2", "lw t0, 4(sp); lw t1, 8(sp); "+op+" t0, t0, t1; sw t0, 0(sp)")
	}
	// One register in several parts.
	writes(t, "add 3 3 3", "add t6, t6, t6")
	writes(t, "sub 0 0 0", "lw t0, 0(sp); lw t1, 0(sp); sub t0, t0, t1; sw t0, 0(sp)")
	writes(t, "sub 3 0 0", "lw t0, 0(sp); lw t1, 0(sp); sub t6, t0, t1")
	writes(t, "sub 0 3 0", "lw t1, 0(sp); sub t0, t6, t1; sw t0, 0(sp)")
	writes(t, "sub 0 0 3", "lw t0, 0(sp); sub t0, t0, t6; sw t0, 0(sp)")
}

func TestEmitNarrow(t *testing.T) {
	t.Parallel()
	for kind, lines := range map[string]string{
		"i8":  "slli D, A, 24; srai D, D, 24",
		"u8":  "andi D, A, 255",
		"i16": "slli D, A, 16; srai D, D, 16",
		"u16": "slli D, A, 16; srli D, D, 16",
	} {
		with := func(d, a string) string { return strings.NewReplacer("D", d, "A", a).Replace(lines) }
		writes(t, "narrow "+kind+" 3 4", with("t6", "s1"))
		writes(t, "narrow "+kind+" 3 1", "lw t0, 4(sp); "+with("t6", "t0"))
		writes(t, "narrow "+kind+" 0 4", with("t0", "s1")+"; sw t0, 0(sp)")
		writes(t, "narrow "+kind+" 0 1", "lw t0, 4(sp); "+with("t0", "t0")+"; sw t0, 0(sp)")
		writes(t, "narrow "+kind+" 3 3", with("t6", "t6"))
		writes(t, "narrow "+kind+" 2 2", "lw t0, 8(sp); "+with("t0", "t0")+"; sw t0, 8(sp)")
	}
}

func TestEmitLoadAndStore(t *testing.T) {
	t.Parallel()
	for kind, words := range map[string][2]string{"i8": {"lb", "sb"}, "u8": {"lbu", "sb"}, "i16": {"lh", "sh"}, "u16": {"lhu", "sh"}, "w": {"lw", "sw"}} {
		load, store := words[0], words[1]
		writes(t, "load "+kind+" 3 4", load+" t6, 0(s1)")
		writes(t, "load "+kind+" 3 1", "lw t0, 4(sp); "+load+" t6, 0(t0)")
		writes(t, "load "+kind+" 0 4", load+" t0, 0(s1); sw t0, 0(sp)")
		writes(t, "load "+kind+" 0 1", "lw t0, 4(sp); "+load+" t0, 0(t0); sw t0, 0(sp)")
		writes(t, "load "+kind+" 3 3", load+" t6, 0(t6)")
		writes(t, "store "+kind+" 3 4", store+" s1, 0(t6)")
		writes(t, "store "+kind+" 3 1", "lw t1, 4(sp); "+store+" t1, 0(t6)")
		writes(t, "store "+kind+" 0 4", "lw t0, 0(sp); "+store+" s1, 0(t0)")
		writes(t, "store "+kind+" 0 1", "lw t0, 0(sp); lw t1, 4(sp); "+store+" t1, 0(t0)")
		writes(t, "store "+kind+" 0 0", "lw t0, 0(sp); lw t1, 0(sp); "+store+" t1, 0(t0)")
		writes(t, "store "+kind+" 3 3", store+" t6, 0(t6)")
	}
}

func TestEmitAddr(t *testing.T) {
	t.Parallel()
	for _, name := range []string{"d", "f", "main"} {
		writes(t, "addr 3 "+name, "la t6, C."+name)
		writes(t, "addr 0 "+name, "la t0, C."+name+"; sw t0, 0(sp)")
		for _, n := range []int{1, 4, 2048, impl.MaxObject} {
			writes(t, fmt.Sprint("addr 3 ", name, " ", n), fmt.Sprint("la t6, C.", name, "+", n))
			writes(t, fmt.Sprint("addr 0 ", name, " ", n), fmt.Sprint("la t0, C.", name, "+", n, "; sw t0, 0(sp)"))
		}
	}
}

func TestEmitSlot(t *testing.T) {
	t.Parallel()
	writes(t, "slot 3 0", "addi t6, sp, 12")
	writes(t, "slot 0 0", "addi t0, sp, 12; sw t0, 0(sp)")
	writes(t, "slot 3 1", "addi t6, sp, 20")
	writes(t, "slot 3 2", "addi t6, sp, 2040")
	writes(t, "slot 0 2", "addi t0, sp, 2040; sw t0, 0(sp)")
	// With the spills beside a call the third slot is farther than an instruction can say.
	writes(t, "slot 3 2; call -1 f", "li s4, 2056; add s4, s4, sp; call C.f")
	writes(t, "slot 0 2; call -1 f", "li t0, 2056; add t0, t0, sp; sw t0, 0(sp); call C.f")
	writes(t, "slot 3 1; call -1 f", "addi s4, sp, 36; call C.f")
	for _, c := range []struct {
		before int
		want   string
	}{
		{2040, "addi t3, sp, 2040;"}, {2043, "addi t3, sp, 2044;"}, {2044, "addi t3, sp, 2044;"}, {2045, "li t3, 2048; add t3, t3, sp;"},
		{2048, "li t3, 2048; add t3, t3, sp;"}, {2049, "li t3, 2052; add t3, t3, sp;"}, {impl.MaxObject, "li t3, 60000; add t3, t3, sp;"},
	} {
		if text := funLines(t, alone(1, []int{c.before, 1}, "slot 0 1; ret 0"), 0, 0); !strings.Contains(text, c.want+" mv a0, t3;") {
			t.Errorf("behind %d bytes: %s", c.before, text)
		}
	}
	// The most slots, all as great as can be.
	slots := make([]int, impl.MaxSlots)
	for i := range slots {
		slots[i] = impl.MaxObject
	}
	if text := funLines(t, alone(1, slots, "slot 0 199; ret 0"), 0, 0); !strings.Contains(text, "li t3, 11940000; add t3, t3, sp;") {
		t.Error(text)
	}
}

func TestEmitCall(t *testing.T) {
	t.Parallel()
	writes(t, "call -1 f", "call C.f")
	writes(t, "call 3 f", "call C.f; mv s4, a0")
	writes(t, "call 0 f", "call C.f; mv t0, a0; sw t0, 0(sp)")
	writes(t, "call 3 main", "call C.main; mv s4, a0")
	writes(t, "call -1 exit 3", "mv a0, s4; call C.exit")
	writes(t, "call 1 getchar", "call C.getchar; mv t0, a0; sw t0, 4(sp)")
	writes(t, "call 4 putchar 1", "lw a0, 4(sp); call C.putchar; mv s5, a0")
	writes(t, "call 3 putchar 3", "mv a0, s4; call C.putchar; mv s4, a0")
	writes(t, "call 2 putchar 2", "lw a0, 8(sp); call C.putchar; mv t0, a0; sw t0, 8(sp)")
	for n := 1; n < 8; n++ {
		args := []string{"4", "1", "5", "2", "4", "1", "5"}[:n]
		texts := []string{"mv a0, s5", "lw a1, 4(sp)", "mv a2, s6", "lw a3, 8(sp)", "mv a4, s5", "lw a5, 4(sp)", "mv a6, s6"}[:n]
		call := fmt.Sprint("g", n, " ", strings.Join(args, " "))
		line := fmt.Sprint(strings.Join(texts, "; "), "; call C.g", n)
		writes(t, "call -1 "+call, line)
		writes(t, "call 3 "+call, line+"; mv s4, a0")
		writes(t, "call 0 "+call, line+"; mv t0, a0; sw t0, 0(sp)")
	}
	writes(t, "call -1 g 3 4 5 3 3 5 4 3", "mv a0, s4; mv a1, s5; mv a2, s6; mv a3, s4; mv a4, s4; mv a5, s6; mv a6, s5; mv a7, s4; call C.g")
	writes(t, "call 4 g 0 3 1 4 2 5 0 0", "lw a0, 0(sp); mv a1, s4; lw a2, 4(sp); mv a3, s5; lw a4, 8(sp); mv a5, s6; lw a6, 0(sp); lw a7, 0(sp); call C.g; mv s5, a0")
	writes(t, "call 1 g 0 1 2 0 1 2 0 1", "lw a0, 0(sp); lw a1, 4(sp); lw a2, 8(sp); lw a3, 0(sp); lw a4, 4(sp); lw a5, 8(sp); lw a6, 0(sp); lw a7, 4(sp); call C.g; mv t0, a0; sw t0, 4(sp)")
}

func TestEmitCallByAddress(t *testing.T) {
	t.Parallel()
	for _, c := range []struct{ a, read, at string }{{"3", "", "s4"}, {"0", "lw t0, 0(sp); ", "t0"}} {
		jump := "jalr ra, 0(" + c.at + ")"
		writes(t, "callr -1 "+c.a, c.read+jump)
		writes(t, "callr 4 "+c.a, c.read+jump+"; mv s5, a0")
		writes(t, "callr 1 "+c.a, c.read+jump+"; mv t0, a0; sw t0, 4(sp)")
		writes(t, "callr "+c.a+" "+c.a, c.read+jump+map[string]string{"3": "; mv s4, a0", "0": "; mv t0, a0; sw t0, 0(sp)"}[c.a])
		args := []string{"4", "1", "5", "2", "4", "1", "5", "2"}
		texts := []string{"mv a0, s5", "lw a1, 4(sp)", "mv a2, s6", "lw a3, 8(sp)", "mv a4, s5", "lw a5, 4(sp)", "mv a6, s6", "lw a7, 8(sp)"}
		for n := 1; n <= 8; n++ {
			writes(t, "callr -1 "+c.a+" "+strings.Join(args[:n], " "), c.read+strings.Join(texts[:n], "; ")+"; "+jump)
		}
	}
	// The address as an argument of its own call.
	writes(t, "callr 0 0 0 0", "lw t0, 0(sp); lw a0, 0(sp); lw a1, 0(sp); jalr ra, 0(t0); mv t0, a0; sw t0, 0(sp)")
}

func TestEmitLabelsAndJumps(t *testing.T) {
	t.Parallel()
	writes(t, "label 7; jump 7", ".L0_7:; j .L0_7")
	writes(t, "label 0; label 9223372036854775807; jump 0; jump 9223372036854775807", ".L0_0:; .L0_9223372036854775807:; j .L0_0; j .L0_9223372036854775807")
	for test, branch := range map[string]string{"eq": "bne", "ne": "beq", "lt": "bge", "ge": "blt", "ltu": "bgeu", "geu": "bltu"} {
		writes(t, "if "+test+" 3 4 1000", branch+" t6, s1, .K0_20; j .L0_1000; .K0_20:")
		writes(t, "if "+test+" 3 1 1001", "lw t1, 4(sp); "+branch+" t6, t1, .K0_20; j .L0_1001; .K0_20:")
		writes(t, "if "+test+" 0 4 1001", "lw t0, 0(sp); "+branch+" t0, s1, .K0_20; j .L0_1001; .K0_20:")
		writes(t, "if "+test+" 0 1 1001", "lw t0, 0(sp); lw t1, 4(sp); "+branch+" t0, t1, .K0_20; j .L0_1001; .K0_20:")
		writes(t, "if "+test+" 0 0 1001", "lw t0, 0(sp); lw t1, 0(sp); "+branch+" t0, t1, .K0_20; j .L0_1001; .K0_20:")
		writes(t, "if "+test+" 4 4 1001", branch+" s1, s1, .K0_20; j .L0_1001; .K0_20:")
	}
	writes(t, "if eq 3 4 1000; num 3 1; if ne 4 3 1000", "bne t6, s1, .K0_20; j .L0_1000; .K0_20:; li t6, 1; beq s1, t6, .K0_22; j .L0_1000; .K0_22:")
}

func TestEmitCopyAndZero(t *testing.T) {
	t.Parallel()
	for _, n := range []int{1, 2, 4, 2047, 2048, impl.MaxObject} {
		copies := fmt.Sprint("li a0, ", n, "; add a0, a0, t0; .K0_20:; lbu a1, 0(t1); sb a1, 0(t0); addi t0, t0, 1; addi t1, t1, 1; bltu t0, a0, .K0_20")
		writes(t, fmt.Sprint("copy 3 4 ", n), "mv t0, t6; mv t1, s1; "+copies)
		writes(t, fmt.Sprint("copy 3 1 ", n), "lw t1, 4(sp); mv t0, t6; "+copies)
		writes(t, fmt.Sprint("copy 0 4 ", n), "lw t0, 0(sp); mv t1, s1; "+copies)
		writes(t, fmt.Sprint("copy 0 1 ", n), "lw t0, 0(sp); lw t1, 4(sp); "+copies)
		writes(t, fmt.Sprint("copy 3 3 ", n), "mv t0, t6; mv t1, t6; "+copies)
		writes(t, fmt.Sprint("copy 2 2 ", n), "lw t0, 8(sp); lw t1, 8(sp); "+copies)
		zeros := fmt.Sprint("li a0, ", n, "; add a0, a0, t0; .K0_20:; sb zero, 0(t0); addi t0, t0, 1; bltu t0, a0, .K0_20")
		writes(t, fmt.Sprint("zero 3 ", n), "mv t0, t6; "+zeros)
		writes(t, fmt.Sprint("zero 0 ", n), "lw t0, 0(sp); "+zeros)
	}
	writes(t, "zero 3 1; copy 3 3 2", "mv t0, t6; li a0, 1; add a0, a0, t0; .K0_20:; sb zero, 0(t0); addi t0, t0, 1; bltu t0, a0, .K0_20; mv t0, t6; mv t1, t6; li a0, 2; add a0, a0, t0; .K0_21:; lbu a1, 0(t1); sb a1, 0(t0); addi t0, t0, 1; addi t1, t1, 1; bltu t0, a0, .K0_21")
}

func TestEmitRet(t *testing.T) {
	t.Parallel()
	// Slots of 8, 2020 and 8 bytes behind three spills: ra is beyond what an instruction can say.
	kept, at := "", 2048
	for _, reg := range strings.Fields("ra s0 s1 s2 s3 s4 s5 s6 s7 s8 s9 s10 s11") {
		kept += fmt.Sprintf("li t2, %d; add t2, t2, sp; lw %s, 0(t2); ", at, reg)
		at += 4
	}
	end := kept + "li t0, 2112; add sp, sp, t0; ret"
	writes(t, "ret -1", "li a0, 0; "+end)
	writes(t, "ret 3", "mv a0, t6; "+end)
	writes(t, "ret 4", "mv a0, s1; "+end)
	writes(t, "ret 0", "lw a0, 0(sp); "+end)
	writes(t, "ret 2", "lw a0, 8(sp); "+end)
	// Each return of a function, also one behind another, is written whole.
	text := funLines(t, alone(1, nil, "num 0 1; ret 0; ret -1; ret 0"), 0, 0)
	end = "lw ra, 0(sp); addi sp, sp, 16; ret"
	if want := "addi sp, sp, -16; sw ra, 0(sp); li t3, 1; mv a0, t3; " + end + "; li a0, 0; " + end + "; mv a0, t3; " + end; !strings.HasSuffix(text, want) {
		t.Error(text)
	}
}
