package tests

import (
	"fmt"
	"slices"
	"strings"
	"testing"

	"loop.example/s01681/impl"
)

// dataIs sees the lines of data behind its label. It stands between others, beside a main and a function f. Its Refs
// are texts: At, Sym and, when it is not 0, N.
func dataIs(t *testing.T, bytes []byte, refs []string, want string) {
	t.Helper()
	d := impl.IrData{Name: "d", Bytes: bytes}
	for _, text := range refs {
		ref := impl.IrRef{}
		fmt.Sscan(text, &ref.At, &ref.Sym, &ref.N)
		d.Refs = append(d.Refs, ref)
	}
	ir := impl.Ir{Data: []impl.IrData{{Name: "before", Bytes: []byte{1, 0}}, d, {Name: "behind", Bytes: []byte{0}}}, Funs: []impl.IrFun{{Name: "main", Code: stepsFrom("ret -1")}, {Name: "f", Code: stepsFrom("ret -1")}}}
	lines := emit(t, ir, 0)
	text := bareTexts(lines[slices.Index(lines, impl.Line{Kind: impl.LineData}):])
	if want = ".data; .align 4; C.before:; .byte 1; .zero 1; .align 4; C.d:; " + want + "; .align 4; C.behind:; .zero 1"; text != want {
		t.Errorf("%q %v:\n%.900s\nnot\n%.900s", bytes[:min(len(bytes), 40)], refs, text, want)
	}
}

func TestEmitBytes(t *testing.T) {
	t.Parallel()
	for _, c := range []struct{ bytes, want string }{
		{"\x00", ".zero 1"}, {"\x01", ".byte 1"}, {"\xff", ".byte 255"}, {"\x80\x7f", ".byte 128; .byte 127"}, {"\x00\x00", ".zero 2"}, {"\x00\x01", ".zero 1; .byte 1"}, {"\x01\x00", ".byte 1; .zero 1"},
		{"\x00\x00\x00\x00\x00", ".zero 5"}, {"\x01\x02\x03\x04\x05", ".byte 1; .byte 2; .byte 3; .byte 4; .byte 5"}, {"\x01\x00\x00\x00\x02", ".byte 1; .zero 3; .byte 2"}, {"\x00\x07\x00\x07\x00", ".zero 1; .byte 7; .zero 1; .byte 7; .zero 1"},
		{"\x00\x00\x09\x00\x00\x00\x08\x08", ".zero 2; .byte 9; .zero 3; .byte 8; .byte 8"}, {"ab\x00", ".byte 97; .byte 98; .zero 1"}, {"0\x00\x00", ".byte 48; .zero 2"}, {"\n\t \\\"", ".byte 10; .byte 9; .byte 32; .byte 92; .byte 34"},
	} {
		dataIs(t, []byte(c.bytes), nil, c.want)
	}
	for b := 1; b < 256; b++ {
		dataIs(t, []byte{byte(b)}, nil, fmt.Sprint(".byte ", b))
	}
	for _, size := range []int{3, 4, 255, 256, 4096, impl.MaxObject} {
		dataIs(t, make([]byte, size), nil, fmt.Sprint(".zero ", size))
		dataIs(t, append(make([]byte, size-1), 5), nil, fmt.Sprint(".zero ", size-1, "; .byte 5"))
		dataIs(t, append([]byte{5}, make([]byte, size-1)...), nil, fmt.Sprint(".byte 5; .zero ", size-1))
	}
}

func TestEmitRefs(t *testing.T) {
	t.Parallel()
	zeros := func(size int) []byte { return make([]byte, size) }
	// Alone, side by side, at the front and at the end.
	dataIs(t, zeros(4), []string{"0 d"}, ".word C.d")
	dataIs(t, zeros(8), []string{"0 d", "4 f"}, ".word C.d; .word C.f")
	dataIs(t, zeros(12), []string{"0 before", "4 behind", "8 main"}, ".word C.before; .word C.behind; .word C.main")
	dataIs(t, zeros(5), []string{"0 f"}, ".word C.f; .zero 1")
	dataIs(t, zeros(8), []string{"4 f"}, ".zero 4; .word C.f")
	dataIs(t, zeros(12), []string{"0 f", "8 f"}, ".word C.f; .zero 4; .word C.f")
	dataIs(t, zeros(24), []string{"8 f"}, ".zero 8; .word C.f; .zero 12")
	dataIs(t, zeros(27), []string{"4 f", "8 d", "20 f"}, ".zero 4; .word C.f; .word C.d; .zero 8; .word C.f; .zero 3")
	// Bytes 0 end ahead of a Ref, and begin anew behind it.
	dataIs(t, []byte("\x01\x00\x00\x00\x00\x00\x00\x00\x00\x00\x05"), []string{"4 main"}, ".byte 1; .zero 3; .word C.main; .zero 2; .byte 5")
	dataIs(t, []byte("\x00\x02\x00\x00\x00\x00\x00\x00\x06\x00"), []string{"4 main"}, ".zero 1; .byte 2; .zero 2; .word C.main; .byte 6; .zero 1")
	dataIs(t, []byte("\x00\x00\x00\x03\x00\x00\x00\x00\x06"), []string{"4 main"}, ".zero 3; .byte 3; .word C.main; .byte 6")
	dataIs(t, []byte("\x01\x02\x03\x04\x00\x00\x00\x00\x05\x06\x07"), []string{"4 d 8"}, ".byte 1; .byte 2; .byte 3; .byte 4; .word C.d+8; .byte 5; .byte 6; .byte 7")
	// Of data and of functions, with N 0 and not.
	for _, name := range []string{"before", "d", "behind", "f", "main"} {
		dataIs(t, zeros(4), []string{"0 " + name}, ".word C."+name)
		for _, n := range []int{1, 3, 4, 2048, impl.MaxObject} {
			dataIs(t, zeros(4), []string{fmt.Sprint("0 ", name, " ", n)}, fmt.Sprint(".word C.", name, "+", n))
			dataIs(t, zeros(9), []string{fmt.Sprint("4 ", name, " ", n)}, fmt.Sprint(".zero 4; .word C.", name, "+", n, "; .zero 1"))
		}
	}
	refs, words := []string{}, []string{}
	for at := 0; at < 20000; at += 4 {
		refs, words = append(refs, fmt.Sprint(at, " d ", at)), append(words, strings.TrimSuffix(fmt.Sprint(".word C.d+", at), "+0"))
	}
	dataIs(t, zeros(20000), refs, strings.Join(words, "; "))
}

// What the words of data are in an image: the addresses of what their Refs name.
func TestEmitAddressesInData(t *testing.T) {
	t.Parallel()
	ir := impl.Ir{
		Data: []impl.IrData{{Name: "a", Bytes: []byte{9, 9, 9}}, {Name: "b", Bytes: make([]byte, 12), Refs: []impl.IrRef{{At: 0, Sym: "b", N: 4}, {At: 4, Sym: "main"}, {At: 8, Sym: "a", N: 2}}}, {Name: "$0", Bytes: []byte("hi\x00")}, {Name: "c", Bytes: make([]byte, 4), Refs: []impl.IrRef{{Sym: "$0"}}}},
		Funs: []impl.IrFun{{Name: "main", Regs: 2, Code: stepsFrom("addr 0 c; load w 0 0; load u8 1 0; call -1 putchar 1; addr 0 b; load w 0 0; load w 1 0; addr 0 main; sub 0 0 1; ret 0")}},
	}
	image, code, _ := impl.Assemble(emit(t, ir, 64), 64)
	// main stands behind the fourteen words of the lines ahead of it.
	word := func(n int) []byte { return []byte{byte(n), byte(n >> 8), byte(n >> 16), byte(n >> 24)} }
	want := slices.Concat([]byte{9, 9, 9, 0}, word(impl.DataBase+8), word(impl.CodeBase+4*14), word(impl.DataBase+2), []byte("hi\x00\x00"), word(impl.DataBase+16))
	if code != 0 || !slices.Equal(image.Data, want) {
		t.Errorf("%d: %v, not %v", code, image.Data, want)
	}
	m, _ := impl.StartMachine(image, nil)
	if m = impl.RunMachine(m, 1000); m.End != impl.EndExit || m.Value != 0 || string(m.Out) != "h" {
		t.Errorf("%d, %d, %q", m.End, m.Value, m.Out)
	}
}

// The most data, each of one byte, and names as long as can be.
func TestEmitTheMostData(t *testing.T) {
	t.Parallel()
	ir := alone(0, nil, "ret -1")
	for i := range impl.MaxGlobals {
		d := impl.IrData{Name: fmt.Sprint("$", 9999-i), Bytes: []byte{byte(i)}}
		if i%2 == 0 {
			d.Name = fmt.Sprintf("%0*d", impl.MaxName-1, i)
			d.Name = "_" + d.Name
		}
		ir.Data = append(ir.Data, d)
	}
	if lines := emit(t, ir, 0); len(lines) != 20+11+1+3*impl.MaxGlobals {
		t.Errorf("%d lines", len(lines))
	}
	image, code, _ := impl.Assemble(emit(t, ir, 0), 0)
	if code != 0 || len(image.Data) != 4*impl.MaxGlobals-3 {
		t.Errorf("%d: %d bytes", code, len(image.Data))
	}
	// As many bytes as data may have in all.
	ir.Data = []impl.IrData{{Name: "a", Bytes: make([]byte, impl.MaxObject)}, {Name: "b", Bytes: make([]byte, impl.MaxData-impl.MaxObject-3)}}
	if image, code, _ := impl.Assemble(emit(t, ir, 0), 0); code != 0 || len(image.Data) != impl.MaxData-3 {
		t.Errorf("%d: %d bytes", code, len(image.Data))
	}
}

// Labels of one function are not those of another, and names are not labels.
func TestEmitLabelsOfManyFunctions(t *testing.T) {
	t.Parallel()
	steps := "label 0; label 1; if eq 0 0 1; label 10; if ne 0 0 0; zero 0 1; copy 0 0 1; if lt 0 0 10; jump 1; ret -1"
	names := []string{"main", "f", "f0", "f_0", "f0_0", "L0_0", "K0_s", "K0_2", "L1_0", "over", "_start", "start", "C", "s", "Cmain", "putchar_", "getchar0", "Exit", "text", "data", "li", "a0", "sp", "x1"}
	ir := impl.Ir{}
	for _, name := range names {
		ir.Funs = append(ir.Funs, impl.IrFun{Name: name, Regs: 1, Code: stepsFrom(steps)})
	}
	for _, name := range []string{"$0", "$1", "$10", "$9999", "main0", "mai", "_", "__", "g", "word", "d_s", strings.Repeat("f", impl.MaxName), strings.Repeat("f", impl.MaxName-1)} {
		ir.Data = append(ir.Data, impl.IrData{Name: name, Bytes: make([]byte, 4), Refs: []impl.IrRef{{Sym: name}}})
	}
	lines := emit(t, ir, 4096)
	for f, name := range names {
		text := funLines(t, ir, f, 4096)
		want := "C.N:; li t0, 2093072; bgeu sp, t0, .KF_s; j .over; .KF_s:; addi sp, sp, -16; sw ra, 0(sp); .LF_0:; .LF_1:; bne t3, t3, .KF_2; j .LF_1; .KF_2:; .LF_10:; beq t3, t3, .KF_4; j .LF_0; .KF_4:; " +
			"mv t0, t3; li a0, 1; add a0, a0, t0; .KF_5:; sb zero, 0(t0); addi t0, t0, 1; bltu t0, a0, .KF_5; mv t0, t3; mv t1, t3; li a0, 1; add a0, a0, t0; .KF_6:; lbu a1, 0(t1); sb a1, 0(t0); addi t0, t0, 1; addi t1, t1, 1; bltu t0, a0, .KF_6; " +
			"bge t3, t3, .KF_7; j .LF_10; .KF_7:; j .LF_1; li a0, 0; lw ra, 0(sp); addi sp, sp, 16; ret"
		if want = strings.NewReplacer("N", name, "F", fmt.Sprint(f)).Replace(want); text != want {
			t.Errorf("%s:\n%s\nnot\n%s", name, text, want)
		}
	}
	if len(lines) < 24*40 {
		t.Errorf("%d lines", len(lines))
	}
	// The most functions.
	ir = impl.Ir{}
	for i := range impl.MaxFuns {
		ir.Funs = append(ir.Funs, impl.IrFun{Name: fmt.Sprint("f", i), Code: stepsFrom("label 9223372036854775807; jump 9223372036854775807; ret -1")})
	}
	ir.Funs[150].Name = "main"
	if text := funLines(t, ir, 299, 0); !strings.HasSuffix(text, "; .L299_9223372036854775807:; j .L299_9223372036854775807; li a0, 0; lw ra, 0(sp); addi sp, sp, 16; ret") {
		t.Error(text)
	}
}
