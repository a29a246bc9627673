package tests

import (
	"bytes"
	"strings"
	"testing"

	"loop.example/s01681/impl"
)

// whole makes a program of a main's body, and of what stands in front of an @ ahead of it.
func whole(text string) string {
	tops, body, ok := strings.Cut(text, "@")
	if !ok {
		tops, body = "", text
	}
	return tops + "int main(void){" + body + "}"
}

func sameOutcome(a, b impl.Outcome) bool {
	return a.End == b.End && a.Value == b.Value && bytes.Equal(a.Out, b.Out) && a.Steps == b.Steps && a.Depth == b.Depth
}

// meaning asks Meaning twice, with room behind the bytes, and sees that these are as they were, that both answers are
// the same in new memory, and that they are what an Outcome can be.
func meaning(t *testing.T, text, in string, fuel int) (impl.Outcome, int, int, int) {
	t.Helper()
	source, input := roomy([]byte(text)), roomy([]byte(in))
	o, code, line, col := impl.Meaning(source, input, fuel)
	again, codeAgain, lineAgain, colAgain := impl.Meaning(source, input, fuel)
	if !bytes.Equal(source[:cap(source)], roomy([]byte(text))[:cap(source)]) || !bytes.Equal(input[:cap(input)], roomy([]byte(in))[:cap(input)]) {
		t.Errorf("%.300q: Meaning wrote into what it was given", text)
	}
	if !sameOutcome(o, again) || code != codeAgain || line != lineAgain || col != colAgain {
		t.Errorf("%.300q: once %v, once %v", text, o, again)
	}
	if touch(o.Out, again.Out) || touch(o.Out, input) || touch(o.Out, source) {
		t.Errorf("%.300q: what was written is not in new memory", text)
	}
	if code != 0 && !sameOutcome(o, impl.Outcome{}) {
		t.Errorf("%.300q: %v beside code %d", text, o, code)
	}
	if code == 0 && !isOutcome(o, fuel) {
		t.Errorf("%.300q: %v", text, o)
	}
	return o, code, line, col
}

func isOutcome(o impl.Outcome, fuel int) bool {
	ends := o.End == impl.EndExit || o.End == impl.EndFuel || o.End == impl.EndUndefined
	value := o.End == impl.EndExit && o.Value >= 0 && o.Value < 1<<32 || o.Value == 0
	return ends && value && o.Steps >= 0 && o.Steps <= fuel && o.Depth >= 0 && o.Depth <= impl.MaxCalls && len(o.Out) <= impl.MaxOut
}

// mean asks for what a right source means, and sees that the second reading says the same, and that its code runs so.
func mean(t *testing.T, text, in string, fuel int) impl.Outcome {
	t.Helper()
	o, code, line, col := meaning(t, text, in, fuel)
	core, _, _, _ := impl.Check([]byte(text))
	if code != 0 || len(core) == 0 {
		t.Errorf("%.300q: %d, %d, %d", text, code, line, col)
		return o
	}
	if by := readBy(string(core)).run(in, fuel); !sameOutcome(o, by) {
		t.Errorf("%.1500q, %q, %d: %v, by the second reading %v", text, in, fuel, o, by)
	}
	runsAsMeant(t, text, in, o)
	return o
}

const enough = 60000

// exits sees that a program ends with a number, and has written something.
func exits(t *testing.T, value int, out string, text string) impl.Outcome {
	t.Helper()
	return exitsOn(t, "", value, out, text)
}

func exitsOn(t *testing.T, in string, value int, out string, text string) impl.Outcome {
	t.Helper()
	o := mean(t, whole(text), in, enough)
	if o.End != impl.EndExit || o.Value != int(uint32(value)) || string(o.Out) != out {
		t.Errorf("%.500q: end %d, %d, %q, not %d, %q", text, o.End, o.Value, o.Out, value, out)
	}
	return o
}

// undefined sees that programs are.
func undefined(t *testing.T, texts ...string) {
	t.Helper()
	for _, text := range texts {
		if o := mean(t, whole(text), "", enough); o.End != impl.EndUndefined {
			t.Errorf("%.500q: end %d, %d, %q, not undefined", text, o.End, o.Value, o.Out)
		}
	}
}

// defined sees that programs end with 0.
func defined(t *testing.T, texts ...string) {
	t.Helper()
	for _, text := range texts {
		exits(t, 0, "", text)
	}
}

// isDefined sees that a program ends with 0, or that it is undefined.
func isDefined(t *testing.T, is bool, text string) {
	t.Helper()
	if is {
		defined(t, text)
	} else {
		undefined(t, text)
	}
}

func TestExamplesOfMeaning(t *testing.T) {
	exits(t, -56, "", "char c=200;return c;")
	exits(t, 44, "", "unsigned char c=200;c+=100;return c;")
	exits(t, -31, "", "return -7/2*10+-7%2;")
	exits(t, 1, "", "return -1>0u;")
	exits(t, 11, "", "int i=2;return i+++i*i;")
	exits(t, 10, "", "int i=1;i+=(i=5);return i;")
	undefined(t, "int i;return i;", "int a[2];return a+3==a;", "for(;;)putchar('a');")
	exits(t, 2, "", "int*p=0,a[2];p=a+2;return p-a;")
	exits(t, 12, "..", "int k=9;switch(3){k=1;case 3:k++;while(k<12){case 4:putchar('.');k++;}}return k;")
	exits(t, 9, "3579", "int n=3;goto in;while(n<9){n+=2;in:putchar('0'+n);}return n;")
	o := mean(t, "int f(int a) { if (a < 3) return 1; else a--; return a; }\nint main(void) { return f(9); }\n", "", 100)
	if o.End != impl.EndExit || o.Value != 8 || o.Steps != 18 || o.Depth != 2 {
		t.Errorf("the example: %v", o)
	}
	if o := mean(t, whole("for(;;)putchar('a');"), "", impl.MaxFuel); len(o.Out) != impl.MaxOut || string(o.Out) != strings.Repeat("a", impl.MaxOut) {
		t.Errorf("%d bytes", len(o.Out))
	}
}

// saysOf sees that Meaning has a code, at the place that an @ marks.
func saysOf(t *testing.T, code int, marked string, in, fuel int) {
	t.Helper()
	text, line, col := unmarked(marked)
	_, gotCode, gotLine, gotCol := meaning(t, text, strings.Repeat("i", in), fuel)
	if gotCode != code || gotLine != line || gotCol != col {
		t.Errorf("%.300q, %d bytes, fuel %d: %d, %d, %d, not %d, %d, %d", text, in, fuel, gotCode, gotLine, gotCol, code, line, col)
	}
}

func TestCodesOfMeaning(t *testing.T) {
	for _, c := range []struct {
		code   int
		marked string
	}{
		{1, "@" + filled("int a;", "int b;", impl.MaxSource+1)}, {2, "int a;\n@#"}, {3, "int a;@/*"}, {4, "\n@\"x"}, {5, `@"\q"`}, {6, "@09"}, {7, "@''"}, {8, "@" + strings.Repeat("a", impl.MaxName+1)}, {9, strings.Repeat("a ", impl.MaxTokens) + "@a"}, {10, "int main(void){return 0;@"}, {31, "@"}, {11, "@int f(void){" + strings.Repeat(";", impl.MaxNodes) + "}"},
		{20, "int main(void){\n return @x;}"}, {21, "int a;char @a;"}, {22, "void @a;"}, {23, "int main(void){1@=2;}"}, {24, "int main(void){main@*2;}"}, {25, "struct S{int a;};struct S s;int main(void){s@.b;}"}, {26, "int main(void){main@(1);}"}, {27, "int a[@0];"}, {28, "int a=@{1,2};"}, {29, "int main(void){@break;}"}, {30, "void f(void){@return 1;}"}, {31, "@int a;"}, {31, "int @f(void);int main(void){}"}, {32, "int a@[60000];"},
	} {
		saysOf(t, c.code, c.marked, 0, 1000)
		// Check's code goes ahead of 12.
		saysOf(t, c.code, c.marked, impl.MaxIn+1, 1000)
		saysOf(t, c.code, c.marked, 0, -1)
		saysOf(t, c.code, c.marked, 0, impl.MaxFuel+1)
	}
	for _, text := range []string{emptyMain, "int main(void){for(;;);}", "int main(void){int i;return i;}"} {
		for _, in := range []int{0, 1, impl.MaxIn} {
			for _, fuel := range []int{0, 1, impl.MaxFuel - 1, impl.MaxFuel} {
				saysOf(t, 0, text, in, fuel)
			}
			for _, fuel := range []int{-1, -2, -1 << 63, impl.MaxFuel + 1, impl.MaxFuel + 2, 1<<63 - 1} {
				saysOf(t, 12, "@"+text, in, fuel)
			}
		}
		for _, fuel := range []int{-1, 0, 1, impl.MaxFuel, impl.MaxFuel + 1} {
			saysOf(t, 12, "@"+text, impl.MaxIn+1, fuel)
			saysOf(t, 12, "@\n\n  "+text, 2*impl.MaxIn, fuel)
		}
	}
	if o, code, line, col := impl.Meaning(nil, nil, 0); code != 31 || line != 1 || col != 1 || !sameOutcome(o, impl.Outcome{}) {
		t.Errorf("nothing: %v, %d, %d, %d", o, code, line, col)
	}
	if o, code, _, _ := impl.Meaning([]byte(emptyMain), nil, 3); code != 0 || o.End != impl.EndExit {
		t.Errorf("no input: %v, %d", o, code)
	}
}

// Value is that of the word alone, and 0 for all ends but EndExit.
func TestValues(t *testing.T) {
	exits(t, 0, "", "return 0;")
	exits(t, -1, "", "return -1;")
	exits(t, 1<<31, "", "return 2147483648;")
	exits(t, -1, "", "exit(-1);return 3;")
	exits(t, 7, "", "exit(7);")
	exits(t, 0, "", "")
	for _, text := range []string{"int x=5;return x/0;", "putchar(9);for(;;);", "int f(int n){return f(n+1);}@return f(7);"} {
		if o := mean(t, whole(text), "", 5000); o.End == impl.EndExit || o.Value != 0 {
			t.Errorf("%q: %v", text, o)
		}
	}
}
