package tests

import (
	"bytes"
	"fmt"
	"slices"
	"testing"

	"loop.example/s01681/impl"
)

// told is a code with its place.
type told struct{ code, line, col int }

// compiled is all that the compiler answers of a source: a text, an image, an outcome and the source in its one form,
// each with its code.
type compiled struct {
	text   []byte
	ofText told
	image  impl.Image
	ofIm   told
	o      impl.Outcome
	ofO    told
	form   []byte
	ofForm told
}

// handed is what is given to the compiler.
type handed struct {
	text, in    string
	fuel, stack int
}

func (h handed) String() string {
	return fmt.Sprintf("%.1500q, %d bytes %.40q, fuel %d, stack %d", h.text, len(h.in), h.in, h.fuel, h.stack)
}

func (c compiled) String() string {
	return fmt.Sprintf("text %v of %d bytes; image %v of %d words, %d bytes, stack %d; outcome %v end %d, value %d, %.100q, %d steps, depth %d; form %v %.300q",
		c.ofText, len(c.text), c.ofIm, len(c.image.Code), len(c.image.Data), c.image.Stack, c.ofO, c.o.End, c.o.Value, c.o.Out, c.o.Steps, c.o.Depth, c.ofForm, c.form)
}

// ask makes all four calls.
func ask(text, in []byte, fuel, stack int) compiled {
	c := compiled{}
	c.text, c.ofText.code, c.ofText.line, c.ofText.col = impl.Compile(text, stack)
	c.image, c.ofIm.code, c.ofIm.line, c.ofIm.col = impl.Build(text, stack)
	c.o, c.ofO.code, c.ofO.line, c.ofO.col = impl.Exec(text, in, fuel, stack)
	c.form, c.ofForm.code, c.ofForm.line, c.ofForm.col = impl.Format(text)
	return c
}

// byLayers does by hand what chapter 13 says, with what the layers say.
func byLayers(text, in []byte, fuel, stack int) compiled {
	c := compiled{}
	tree, code, line, col := impl.Parse(text)
	c.ofForm = told{code, line, col}
	if code == 0 {
		c.form, _ = impl.Print(tree)
	}
	ir, code, line, col := impl.Lower(text)
	if code != 0 {
		c.ofText = told{code, line, col}
		c.ofIm, c.ofO = c.ofText, c.ofText
		return c
	}
	lines, ok := impl.Emit(ir, stack)
	written, printed := impl.PrintAsm(lines)
	if !ok || !printed {
		c.ofText = told{34, 1, 1}
		c.ofIm, c.ofO = c.ofText, c.ofText
		return c
	}
	c.text = written
	image, code, _ := impl.Assemble(lines, stack)
	if code != 0 {
		c.ofIm = told{35, 1, 1}
		c.ofO = c.ofIm
		return c
	}
	c.image = image
	if len(in) > impl.MaxIn || fuel < 0 || fuel > impl.MaxFuel {
		c.ofO = told{12, 1, 1}
		return c
	}
	m, _ := impl.StartMachine(image, in)
	m = impl.RunMachine(m, fuel)
	c.o = impl.Outcome{End: m.End, Value: m.Value, Out: m.Out, Steps: m.Steps}
	if m.End == impl.EndNone {
		c.o.End, c.o.Value = impl.EndFuel, 0
	}
	return c
}

func sameImage(a, b impl.Image) bool {
	return slices.Equal(a.Code, b.Code) && bytes.Equal(a.Data, b.Data) && a.Entry == b.Entry && a.Stack == b.Stack
}

// otherThan tells the first thing in which two answers are not the same.
func (c compiled) otherThan(other compiled) string {
	switch {
	case c.ofText != other.ofText || !bytes.Equal(c.text, other.text):
		return "Compile"
	case c.ofIm != other.ofIm || !sameImage(c.image, other.image):
		return "Build"
	case c.ofO != other.ofO || !sameOutcome(c.o, other.o):
		return "Exec"
	case c.ofForm != other.ofForm || !bytes.Equal(c.form, other.form):
		return "Format"
	}
	return ""
}

// misplaced tells what stands beside a code where it may not: something beside one that is not 0, or a place beside 0.
func (c compiled) misplaced() string {
	beside := func(code told, something bool) bool {
		return code.code == 0 && code != told{} || code.code != 0 && something
	}
	switch {
	case beside(c.ofText, len(c.text) > 0) || c.ofText.code == 0 && len(c.text) == 0:
		return "Compile"
	case beside(c.ofIm, !sameImage(c.image, impl.Image{})) || c.ofIm.code == 0 && !impl.ImageOk(c.image):
		return "Build"
	case beside(c.ofO, !sameOutcome(c.o, impl.Outcome{})) || c.ofO.code == 0 && !isMachineOutcome(c.o):
		return "Exec"
	case beside(c.ofForm, len(c.form) > 0):
		return "Format"
	}
	return ""
}

// isMachineOutcome says whether an outcome can be that of a machine.
func isMachineOutcome(o impl.Outcome) bool {
	value := o.Value == 0
	switch o.End {
	case impl.EndExit:
		value = o.Value >= 0 && o.Value < 1<<32
	case impl.EndFault:
		value = o.Value >= impl.FaultPc && o.Value <= impl.FaultOut
	case impl.EndStack, impl.EndFuel:
	default:
		return false
	}
	return value && o.Depth == 0 && o.Steps >= 0 && o.Steps <= impl.MaxFuel && len(o.Out) <= impl.MaxOut
}

// cc asks for all answers twice, with room behind the bytes, and sees that these are as they were, that the answers are the
// same in new memory, that they are those of the layers, and that nothing stands beside a code that is not 0.
func cc(t *testing.T, text, in string, fuel, stack int) compiled {
	t.Helper()
	h := handed{text, in, fuel, stack}
	source, input := roomy([]byte(text)), roomy([]byte(in))
	got := ask(source, input, fuel, stack)
	again := ask(source, input, fuel, stack)
	if !bytes.Equal(source[:cap(source)], roomy([]byte(text))[:cap(source)]) || !bytes.Equal(input[:cap(input)], roomy([]byte(in))[:cap(input)]) {
		t.Errorf("%v: something was written into what was handed in", h)
	}
	if what := got.otherThan(again); what != "" {
		t.Errorf("%v: %s once\n%v, once\n%v", h, what, got, again)
	}
	if by := byLayers([]byte(text), []byte(in), fuel, stack); got.otherThan(by) != "" {
		t.Errorf("%v: %s\n%v, by the layers\n%v", h, got.otherThan(by), got, by)
	}
	if what := got.misplaced(); what != "" {
		t.Errorf("%v: %s\n%v", h, what, got)
	}
	lists := func(c compiled) [][]byte { return [][]byte{c.text, c.image.Data, c.o.Out, c.form} }
	anyTouch(t, h.String(), append(lists(again), source, input), lists(got))
	anyTouch(t, h.String(), [][]int{again.image.Code}, [][]int{got.image.Code})
	return got
}

// ran gives what a right source does on the machine.
func ran(t *testing.T, text, in string, fuel, stack int) impl.Outcome {
	t.Helper()
	c := cc(t, text, in, fuel, stack)
	if c.ofText.code != 0 || c.ofIm.code != 0 || c.ofO.code != 0 || c.ofForm.code != 0 {
		t.Errorf("%v: %v", handed{text, in, fuel, stack}, c)
	}
	return c.o
}

// The document's example, through all that chapter 13 has.
func TestCompilerExample(t *testing.T) {
	t.Parallel()
	const source = "int f(int a) { if (a < 3) return 1; else a--; return a; }\nint main(void) { return f(9); }\n"
	c := cc(t, source, "", 1000, 4096)
	if want := "int f ( int a ) {\nif ( a < 3 ) return 1 ;\nelse a -- ;\nreturn a ;\n}\nint main ( void ) {\nreturn f ( 9 ) ;\n}\n"; string(c.form) != want {
		t.Errorf("%q, not %q", c.form, want)
	}
	want := "  .text\n_start:\n  call C.main\n  li a7, 3\n  ecall\n.over:\n  li a7, 4\n  ecall\nC.putchar:\n  li a7, 1\n  ecall\n  ret\nC.getchar:\n  li a7, 2\n  ecall\n  ret\nC.exit:\n  li a7, 3\n  ecall\n  ret\n" +
		"C.f:\n  li t0, 2093072\n  bgeu sp, t0, .K0_s\n  j .over\n.K0_s:\n  addi sp, sp, -16\n  sw ra, 0(sp)\n  mv t3, a0\n  mv t4, t3\n  li t5, 3\n  blt t4, t5, .K0_2\n  j .L0_0\n.K0_2:\n  li t4, 1\n  mv a0, t4\n  lw ra, 0(sp)\n  addi sp, sp, 16\n  ret\n" +
		"  j .L0_1\n.L0_0:\n  li t4, 1\n  mv t5, t3\n  sub t6, t5, t4\n  mv t3, t6\n.L0_1:\n  mv t4, t3\n  mv a0, t4\n  lw ra, 0(sp)\n  addi sp, sp, 16\n  ret\n  li t3, 0\n  mv a0, t3\n  lw ra, 0(sp)\n  addi sp, sp, 16\n  ret\n" +
		"C.main:\n  li t0, 2093072\n  bgeu sp, t0, .K1_s\n  j .over\n.K1_s:\n  addi sp, sp, -16\n  sw ra, 0(sp)\n  li t3, 9\n  mv a0, t3\n  call C.f\n  mv t4, a0\n  mv a0, t4\n  lw ra, 0(sp)\n  addi sp, sp, 16\n  ret\n  li t3, 0\n  mv a0, t3\n  lw ra, 0(sp)\n  addi sp, sp, 16\n  ret\n  .data\n"
	if string(c.text) != want {
		t.Errorf("%s\nnot\n%s", c.text, want)
	}
	// li is two words for a number above 2047.
	if len(c.image.Code) != 64 || len(c.image.Data) != 0 || c.image.Entry != impl.CodeBase || c.image.Stack != 4096 {
		t.Errorf("%d words, %d bytes, entry %d, stack %d", len(c.image.Code), len(c.image.Data), c.image.Entry, c.image.Stack)
	}
	if !sameOutcome(c.o, impl.Outcome{End: impl.EndExit, Value: 8, Steps: 35}) {
		t.Errorf("%v", c.o)
	}
}
