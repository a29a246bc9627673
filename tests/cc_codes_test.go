package tests

import (
	"math"
	"slices"
	"strings"
	"testing"

	"loop.example/s01681/impl"
)

// sourcesOfCodes has, for each code of Lex, Parse, Check and Lower, sources that have it at the place that an @ marks.
func sourcesOfCodes() map[int][]string {
	long := strings.Repeat("a", impl.MaxName+1)
	wide := "\"" + strings.Repeat("s", impl.MaxString+1) + "\""
	great := "int f(void){" + strings.Repeat("!1;", 401) + "}" + emptyMain
	return map[int][]string{
		1:  {"@" + filled("int a;", emptyMain, impl.MaxSource+1), "@" + filled("#", "", impl.MaxSource+1), "@" + filled("\n\n", "\n", 3*impl.MaxSource)},
		2:  {"int a;\n@#", "@12x", "int main(void)\n{\n\treturn @0x;\n}", emptyMain + "@`"},
		3:  {"int a;@/*", "\n \n @/* int main", emptyMain + "\n@/**"},
		4:  {"\n@\"x", "char c=@'", "char*s=@\"a\n\";", "int a;@\"\\"},
		5:  {`@"\q"`, "int a;\n\n   @'\\q'", `char*s=@"\400";`},
		6:  {"@09", "int a=@4294967296;", "\nint a=@0x100000000u;"},
		7:  {"@''", "int a=@'ab';", "\n\n@''''"},
		8:  {"@" + long, "int a=@" + wide + ";", "\nint " + long[1:] + ",@" + long + ";"},
		9:  {strings.Repeat("a ", impl.MaxTokens) + "@a", strings.Repeat(";\n", impl.MaxTokens) + "@;;"},
		10: {"int main(void){return 0;@", "int@", "int main(void)\n{\n return 1 @1;}", "int a = @;", "@else", emptyMain + "@}", "int a[3]\n@"},
		11: {"@int f(void){" + strings.Repeat(";", impl.MaxNodes) + "}", "@int a=" + strings.Repeat("- ", impl.MaxTall) + "1;", "@\n\n int main(void)" + strings.Repeat("{", impl.MaxTall) + strings.Repeat("}", impl.MaxTall)},
		20: {"int main(void){\n return @x;}", "int a=@b;" + emptyMain, "int main(void){int i;{int k;}return @k;}"},
		21: {"int a;char @a;" + emptyMain, "int f(void){return 1;}int @f(void){return 1;}" + emptyMain, "int main(void){int a;\nint @a;}", "enum E{A,@A};" + emptyMain},
		22: {"void @a;" + emptyMain, "struct S @a;" + emptyMain, "int main(void){return @sizeof(void);}", "int f(@int){}" + emptyMain},
		23: {"int main(void){1@=2;}", "int main(void){\n@&1;}", "int main(void){int a[2];a@++;}"},
		24: {"int main(void){main@*2;}", "int main(void){int*p;p@=1;}", "int*f(void){@return 1;}" + emptyMain},
		25: {"struct S{int a;};struct S s;int main(void){s@.b;}", "struct S{int a;};int f(struct S*s){return s\n@->b;}" + emptyMain},
		26: {"int main(void){main@(1);}", "int a;int main(void){a@();}"},
		27: {"int a[@0];" + emptyMain, "int main(void){switch(1){case @main:;}}", "int a=1@/0;" + emptyMain},
		28: {"int a=@{1,2};" + emptyMain, "int main(void){char a[2]=@\"abc\";}", "int *a = @1;" + emptyMain},
		29: {"int main(void){@break;}", "int main(void){\n@goto l;}", "int main(void){l:;@l:;}", "int main(void){@case 1:;}"},
		30: {"void f(void){@return 1;}" + emptyMain, "int main(void){@return;}"},
		31: {"@int a;", "@", "int @f(void);int main(void){}", "@void main(void){}"},
		32: {"int a@[60000];" + emptyMain, "int main(void){" + many(impl.MaxLocals, "int a#;") + "int @b;}", many(impl.MaxGlobals, "int a#;") + "int @b;" + emptyMain},
		33: {"@char a[60000],b[60000];" + emptyMain, "@" + many(impl.MaxFuns, "void f#(void){}") + emptyMain, "@\n\n " + great, "@" + emptyMain[:len(emptyMain)-1] + strings.Repeat("!1;", 400) + "}"},
	}
}

// Each code of the layers below, with its place, from Compile, Build and Exec alike; from Format those of Lex and Parse.
func TestCodesOfAllLayers(t *testing.T) {
	t.Parallel()
	sources := sourcesOfCodes()
	for code := 1; code <= 33; code++ {
		if len(sources[code]) == 0 && (code < 12 || code > 19) {
			t.Errorf("no source has the code %d", code)
		}
		for _, marked := range sources[code] {
			text, line, col := unmarked(marked)
			want := told{code, line, col}
			for _, h := range []handed{{text, "", 1000, 4096}, {text, "", 0, 0}, {text, "in", impl.MaxFuel, impl.MaxStack}} {
				c := cc(t, h.text, h.in, h.fuel, h.stack)
				if c.ofText != want || c.ofIm != want || c.ofO != want {
					t.Errorf("%v: %v, not %v", h, c, want)
				}
				switch {
				case code < 12 && (c.ofForm != want || len(c.form) > 0):
					t.Errorf("%v: Format says %v, not %v", h, c.ofForm, want)
				case code > 12 && (c.ofForm != told{} || len(c.form) == 0 && text != ""):
					t.Errorf("%v: Format says %v of a source that Parse takes", h, c.ofForm)
				}
			}
		}
	}
}

// The code of a source goes ahead of 34, 35 and 12.
func TestCodesOfSourcesComeFirst(t *testing.T) {
	t.Parallel()
	for code, marks := range sourcesOfCodes() {
		text, line, col := unmarked(marks[0])
		for _, h := range []handed{{text, "", 1000, 8}, {text, "", 1000, -16}, {text, "", -1, 64}, {text, strings.Repeat("i", impl.MaxIn+1), 1000, 64}, {text, strings.Repeat("i", impl.MaxIn+1), impl.MaxFuel + 1, impl.MaxStack + 16}} {
			want := told{code, line, col}
			if c := cc(t, h.text, h.in, h.fuel, h.stack); c.ofText != want || c.ofIm != want || c.ofO != want {
				t.Errorf("%v: %v, not %v", h, c, want)
			}
		}
	}
}

// Stacks that no image has.
func TestStacksThatAreNone(t *testing.T) {
	t.Parallel()
	for _, stack := range []int{-1, -16, -4096, -65536, math.MinInt, 1, 4, 8, 15, 17, 24, 100, 4095, 4097, 65535, impl.MaxStack + 1, impl.MaxStack + 16, 131072, 1 << 32, math.MaxInt, math.MaxInt - 15} {
		for _, h := range []handed{{emptyMain, "", 1000, stack}, {emptyMain, "", -1, stack}, {emptyMain, strings.Repeat("i", impl.MaxIn+1), 1000, stack}} {
			want := told{34, 1, 1}
			if c := cc(t, h.text, h.in, h.fuel, h.stack); c.ofText != want || c.ofIm != want || c.ofO != want || c.ofForm != (told{}) {
				t.Errorf("%v: %v", h, c)
			}
		}
	}
	for _, stack := range []int{0, 16, 32, 48, 64, 4096, impl.MaxStack - 16, impl.MaxStack} {
		if c := cc(t, "\n\n"+emptyMain, "", 1000, stack); c.ofText != (told{}) || c.ofIm != (told{}) || c.ofO != (told{}) || c.image.Stack != stack {
			t.Errorf("%d: %v", stack, c)
		}
	}
}

// filledBytes is a function that fills two arrays byte by byte, which takes many lines for its source.
const filledBytes = "void f#(void){char a[]=\"" + twoHundred + "\",b[]=\"" + twoHundred + "\";}"
const twoHundred = fifty + fifty + fifty + fifty
const fifty = "0123456789abcdefghijklmnopqrstuvwxyz0123456789abcd"

// linesAndWords are those of a source of functions that do not name each other, and a main: the sum of what each takes alone.
func linesAndWords(t *testing.T, functions ...string) (int, int) {
	t.Helper()
	alone := func(text string) (int, int) {
		ir, _, _, _ := impl.Lower([]byte(text + emptyMain))
		lines, ok := impl.Emit(ir, 4096)
		if !ok {
			t.Fatalf("%.100q has no lines", text)
		}
		words := 0
		for _, l := range lines {
			words += wordsBy(l)
		}
		return len(lines), words
	}
	lines, words := alone("")
	emptyLines, emptyWords := lines, words
	for _, text := range functions {
		its, itsWords := alone(text)
		lines, words = lines+its-emptyLines, words+itsWords-emptyWords
	}
	return lines, words
}

// withLines gives the functions of a source with so many lines. A number is a line and a word, a label a line alone.
func withLines(t *testing.T, count int) []string {
	t.Helper()
	functions := append(fillers(9), "void g(void){"+strings.Repeat("1;", 500)+"}")
	lines, _ := linesAndWords(t, append(functions, "void h(void){}")...)
	return append(functions, "void h(void){"+many(count-lines, "l#:;")+"}")
}

// withWords gives the functions of a source with so many words. A number above 2047 takes two.
func withWords(t *testing.T, count int) []string {
	t.Helper()
	functions := fillers(7)
	_, words := linesAndWords(t, append(functions, "void g(void){}")...)
	left := count - words
	return append(functions, "void g(void){"+strings.Repeat("70000;", left/2)+strings.Repeat("1;", left%2)+"}")
}

func fillers(count int) []string {
	return strings.SplitAfter(many(count, filledBytes+"\n"), "\n")[:count]
}

// As many lines as there may be, and one more: 34. There are too many words for an image then: 35.
func TestSourcesOfManyLines(t *testing.T) {
	t.Parallel()
	for _, count := range []int{impl.MaxLines - 1, impl.MaxLines, impl.MaxLines + 1, impl.MaxLines + 2} {
		functions := withLines(t, count)
		if lines, words := linesAndWords(t, functions...); lines != count || words <= impl.MaxCode {
			t.Fatalf("%d lines, %d words", lines, words)
		}
		text := strings.Join(functions, "") + emptyMain
		for _, h := range []handed{{text, "", 1000, 4096}, {text, "", -1, 4096}, {text, strings.Repeat("i", impl.MaxIn+1), 1000, impl.MaxStack}, {text, "", 1000, 24}} {
			c := cc(t, h.text, h.in, h.fuel, h.stack)
			ofText, ofIm := told{}, told{35, 1, 1}
			if count > impl.MaxLines || h.stack == 24 {
				ofText, ofIm = told{34, 1, 1}, told{34, 1, 1}
			}
			if c.ofText != ofText || c.ofIm != ofIm || c.ofO != ofIm || c.ofForm != (told{}) {
				t.Errorf("%d lines, fuel %d, stack %d: %v, %v, %v, %v", count, h.fuel, h.stack, c.ofText, c.ofIm, c.ofO, c.ofForm)
			}
			if ofText == (told{}) && strings.Count(string(c.text), "\n") != count {
				t.Errorf("%d lines in a text of %d", strings.Count(string(c.text), "\n"), count)
			}
		}
	}
}

// As many words as there may be, and one more: 35, but Compile gives the text.
func TestSourcesOfManyWords(t *testing.T) {
	t.Parallel()
	for _, count := range []int{impl.MaxCode - 1, impl.MaxCode, impl.MaxCode + 1, impl.MaxCode + 2} {
		functions := withWords(t, count)
		if lines, words := linesAndWords(t, functions...); words != count || lines > impl.MaxLines {
			t.Fatalf("%d lines, %d words", lines, words)
		}
		text := strings.Join(functions, "") + emptyMain
		for _, h := range []handed{{text, "", 1000, 4096}, {text, "", -1, 4096}, {text, strings.Repeat("i", impl.MaxIn+1), 1000, impl.MaxStack}} {
			c := cc(t, h.text, h.in, h.fuel, h.stack)
			ofIm, ofO := told{}, told{}
			if h.fuel < 0 || len(h.in) > impl.MaxIn {
				ofO = told{12, 1, 1}
			}
			if count > impl.MaxCode {
				ofIm, ofO = told{35, 1, 1}, told{35, 1, 1}
			}
			if c.ofText != (told{}) || c.ofIm != ofIm || c.ofO != ofO {
				t.Errorf("%d words, fuel %d: %v, %v, %v", count, h.fuel, c.ofText, c.ofIm, c.ofO)
			}
			if ofIm == (told{}) && len(c.image.Code) != count {
				t.Errorf("%d words in an image of %d", len(c.image.Code), count)
			}
		}
	}
}

// The longest lines that could be made many by a source: registers with long names, numbers of ten digits, names of as many
// bytes as there may be. The text stays below MaxAsm as long as there are at most MaxLines of them.
func TestSourcesOfLongLines(t *testing.T) {
	t.Parallel()
	bytes := "\"" + strings.Repeat("\xff", impl.MaxString) + "\""
	locals, uses := "", []string{}
	for _, name := range strings.Split("abcdefghijkl", "") {
		locals += "int " + name + "=1;"
		uses = append([]string{name + ";"}, uses...)
	}
	body := locals + "char x[]=" + bytes + ",y[]=" + bytes + ";" + strings.Join(uses, "")
	name := strings.Repeat("n", impl.MaxName)
	for _, text := range []string{
		many(9, "void f#(void){"+body+"}") + emptyMain, "int " + name + "[15000];" + many(8, "void f#(void){"+body+"}") + "void g(void){" + strings.Repeat("&"+name+";", 300) + "}" + emptyMain, "int " + name + "[10],*p[]={" + strings.Repeat("&"+name+"[9],", 380) + "};" + emptyMain,
	} {
		c := cc(t, text, "", 1000, 4096)
		if c.ofText != (told{}) || len(c.text) > impl.MaxAsm {
			t.Errorf("%.60q: %v, %d bytes", text, c.ofText, len(c.text))
		}
		if lines, code, _ := impl.ParseAsm(c.text); code != 0 || len(lines) > impl.MaxLines {
			t.Errorf("%.60q: %d, %d lines", text, code, len(lines))
		}
	}
}

// Inputs and fuels that are none: 12, from Exec alone.
func TestInputsAndFuels(t *testing.T) {
	t.Parallel()
	echo := whole("int c,n=0;while((c=getchar())!=-1)n++;return n;")
	for _, text := range []string{emptyMain, "\n " + echo, whole("for(;;);"), whole("int*p=0;return*p;")} {
		for _, in := range []int{0, 1, impl.MaxIn - 1, impl.MaxIn, impl.MaxIn + 1, 2 * impl.MaxIn} {
			for _, fuel := range []int{0, 1, 100, impl.MaxFuel, -1, -2, math.MinInt, impl.MaxFuel + 1, math.MaxInt} {
				if in > 0 && in < impl.MaxIn && fuel == impl.MaxFuel {
					continue
				}
				c := cc(t, text, strings.Repeat("i", in), fuel, 64)
				want := told{}
				if in > impl.MaxIn || fuel < 0 || fuel > impl.MaxFuel {
					want = told{12, 1, 1}
				}
				if c.ofO != want || c.ofText != (told{}) || c.ofIm != (told{}) {
					t.Errorf("%q, %d bytes, fuel %d: %v, not %v", text, in, fuel, c, want)
				}
			}
		}
	}
	if o := ran(t, echo, strings.Repeat("i", impl.MaxIn), impl.MaxFuel, 64); o.End != impl.EndExit || o.Value != impl.MaxIn {
		t.Errorf("all the input: %v", o)
	}
	if o := ran(t, emptyMain, "", 0, 64); !sameOutcome(o, impl.Outcome{End: impl.EndFuel}) {
		t.Errorf("no fuel: %v", o)
	}
}

// Nothing at all, and no input at all.
func TestNothingIsCompiled(t *testing.T) {
	t.Parallel()
	want := told{31, 1, 1}
	got := ask(nil, nil, 0, 0)
	if got.ofText != want || got.ofIm != want || got.ofO != want || got.ofForm != (told{}) || len(got.form) != 0 || got.misplaced() != "" {
		t.Errorf("%v", got)
	}
	for _, blank := range []string{"", " ", "\n\n", "/* x */", "// x"} {
		if c := cc(t, blank, "", 10, 64); c.ofText != want || c.ofForm != (told{}) || len(c.form) != 0 {
			t.Errorf("%q: %v", blank, c)
		}
	}
	if o, code, line, col := impl.Exec([]byte(emptyMain), nil, 100, 64); code != 0 || line != 0 || col != 0 || o.End != impl.EndExit {
		t.Errorf("no input: %v, %d, %d, %d", o, code, line, col)
	}
}

// The codes are the numbers of the document alone.
func TestNoOtherCodes(t *testing.T) {
	t.Parallel()
	known := []int{0, 12, 33, 34, 35}
	for code := range 33 {
		if code <= 11 || code >= 20 {
			known = append(known, code)
		}
	}
	for _, marks := range sourcesOfCodes() {
		for _, marked := range marks {
			text, _, _ := unmarked(marked)
			c := ask([]byte(text), nil, -1, 24)
			for _, code := range []int{c.ofText.code, c.ofIm.code, c.ofO.code, c.ofForm.code} {
				if !slices.Contains(known, code) {
					t.Errorf("%.100q: %d", text, code)
				}
			}
		}
	}
}
