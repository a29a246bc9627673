package tests

import (
	"bytes"
	"fmt"
	"strings"
	"testing"

	"loop.example/s01681/impl"
)

// lower asks Lower twice, with room behind the bytes, and sees that these are as they were, that both answers are the
// same in new memory, that the code stands just beside 0 and is valid, and that the second reading says the same.
func lower(t *testing.T, text string) (impl.Ir, int, int, int) {
	t.Helper()
	given := roomy([]byte(text))
	ir, code, line, col := impl.Lower(given)
	again, codeAgain, lineAgain, colAgain := impl.Lower(given)
	if !bytes.Equal(given[:cap(given)], roomy([]byte(text))[:cap(given)]) {
		t.Errorf("%.300q: Lower wrote into the source", text)
	}
	if !sameIr(ir, again) || code != codeAgain || line != lineAgain || col != colAgain {
		t.Errorf("%.300q: once %d, once %d", text, code, codeAgain)
	} else {
		ownMemory(t, text, ir, again)
	}
	core, codeBy, lineBy, colBy := impl.Check([]byte(text))
	want := impl.Ir{}
	if codeBy == 0 {
		want = lowerBy(string(core))
		if wrong := irOkBy(want); wrong != "" {
			want, codeBy, lineBy, colBy = impl.Ir{}, 33, 1, 1
		}
	}
	if code != codeBy || line != lineBy || col != colBy {
		t.Errorf("%.1000q: %d, %d, %d, by the second reading %d, %d, %d", text, code, line, col, codeBy, lineBy, colBy)
	} else if !sameIr(ir, want) {
		t.Errorf("%.2000q:\n%.3000s\nby the second reading\n%.3000s", text, irText(ir), irText(want))
	}
	if code == 0 && !irOk(t, ir) {
		t.Errorf("%.1000q: the code is not valid", text)
	}
	allocOnce(t, ir)
	emitOnce(t, ir)
	return ir, code, line, col
}

// lowered gives the code of a right source.
func lowered(t *testing.T, text string) impl.Ir {
	t.Helper()
	ir, code, line, col := lower(t, text)
	if code != 0 {
		t.Errorf("%.500q: %d, %d, %d", text, code, line, col)
	}
	return ir
}

// funOf gives the function of a code that has a name, nothing when there is none.
func funOf(ir impl.Ir, name string) impl.IrFun {
	for _, f := range ir.Funs {
		if f.Name == name {
			return f
		}
	}
	return impl.IrFun{}
}

// fLowers sees that the function f of a source, with a main behind it, has a code: Params, Regs, Slots and its steps.
func fLowers(t *testing.T, text, want string) {
	t.Helper()
	f := funOf(lowered(t, text+emptyMain), "f")
	if got := strings.TrimPrefix(funText(f), "f "); got != want {
		t.Errorf("%s:\n%s\nnot\n%s", text, got, want)
	}
}

// lowTops stands in front of what valuesLower and stepsLower see: something of each type.
const lowTops = `struct S { char c; int n; short h; int *p; }; struct T { int a, b; };
int gi; unsigned gu; char gc; unsigned char gb; short gh; unsigned short gw; int ga[4], *gp; char gs[8]; struct S gr, gt[2]; struct T gx, gy;
void v(void) {} void w(int a) {} int h(void) { return 1; } int k(int a, char b) { return a; } int *q(int *p) { return p; } int (*hp)(void), (*kp)(int, char); void (*vp)(void), (*wp)(int); int *(*qp)(int *);
`

// exprLowers sees what an expr is lowered to, in a function with the params a and b, ints in the registers 0 and 1, u,
// unsigned, in 2, p, a pointer to int, in 3, and c, a char, in 4. What is at the end of each function is left out.
func exprLowers(t *testing.T, expr, want string) {
	t.Helper()
	f := funOf(lowered(t, lowTops+"void f(int a, int b, unsigned u, int *p, char c) {"+expr+";}"+emptyMain), "f")
	got, ok := strings.CutSuffix(stepsText(f.Code), "ret -1")
	got = strings.TrimSuffix(got, "; ")
	if got != want || !ok || len(f.Slots) != 0 || f.Params != 5 {
		t.Errorf("%s: %v\n%s\nnot\n%s", expr, f.Slots, got, want)
	}
}

func TestLowerExample(t *testing.T) {
	ir := lowered(t, "int f(int a) { if (a < 3) return 1; else a--; return a; }\nint main(void) { return f(9); }\n")
	want := "f 1 9 []: move 1 0; num 2 3; if ge 1 2 0; num 3 1; ret 3; jump 1; label 0; num 4 1; move 5 0; sub 6 5 4; move 0 6; label 1; move 7 0; ret 7; num 8 0; ret 8\n" +
		"main 0 3 []: num 0 9; call 1 f 0; ret 1; num 2 0; ret 2"
	if irText(ir) != want {
		t.Errorf("%s", irText(ir))
	}
	if o := runIr(t, ir, "", 100); o.End != impl.EndExit || o.Value != 8 || o.Steps != 14 || o.Depth != 2 {
		t.Errorf("%v", o)
	}
}

// Params and locals, kept in registers and not.
func TestLowerLocals(t *testing.T) {
	fLowers(t, "void f(void){}", "0 0 []: ret -1")
	fLowers(t, "int f(void){}", "0 1 []: num 0 0; ret 0")
	fLowers(t, "char f(void){}", "0 1 []: num 0 0; ret 0")
	fLowers(t, "int*f(void){}", "0 1 []: num 0 0; ret 0")
	fLowers(t, "void f(int a,char b,int*c){}", "3 3 []: ret -1")
	fLowers(t, "void f(int a,int b,int c,int d,int e,int f,int g,int h){}", "8 8 []: ret -1")
	// Locals that are kept come behind the params, whatever they are, and new registers behind these.
	fLowers(t, "void f(int a){int b;char c;int*d;}", "1 4 []: ret -1")
	fLowers(t, "int f(int a){int b=a;char c=5;int*d=0;return b;}", "1 10 []: move 4 0; move 1 4; num 5 5; narrow i8 6 5; move 2 6; num 7 0; move 3 7; move 8 1; ret 8; num 9 0; ret 9")
	// Slots in the order of the locals, params among them, each of its size.
	fLowers(t, "void f(void){int a[3];char b[5];}", "0 0 [12 5]: ret -1")
	fLowers(t, "struct S{char c;int n;};union U{char c[5];short h;};void f(void){char a[5];struct S s;int k;union U u;char c;&c;}", "0 2 [5 8 6 1]: slot 1 3; ret -1")
	// A param with T 1 is written into its slot, each with its kind; its register stays its own.
	fLowers(t, "void f(int a){&a;}", "1 3 [4]: slot 1 0; store w 1 0; slot 2 0; ret -1")
	fLowers(t, "void f(int a,char b,unsigned char c,short d,unsigned short e,int*g,unsigned h){&a;&b;&c;&d;&e;&g;&h;}", "7 21 [4 1 1 2 2 4 4]: slot 7 0; store w 7 0; slot 8 1; store i8 8 1; slot 9 2; store u8 9 2; slot 10 3; store i16 10 3; slot 11 4; store u16 11 4; slot 12 5; store w 12 5; slot 13 6; store w 13 6; slot 14 0; slot 15 1; slot 16 2; slot 17 3; slot 18 4; slot 19 5; slot 20 6; ret -1")
	fLowers(t, "int f(int a,int b,int c){int d=1,e=2;&b;&d;return a+b+c+d+e;}", "3 22 [4 4]: slot 4 0; store w 4 1; slot 5 1; num 6 1; store w 5 6; num 7 2; move 3 7; slot 8 0; slot 9 1; move 10 0; slot 11 0; load w 12 11; add 13 10 12; move 14 2; add 15 13 14; slot 16 1; load w 17 16; add 18 15 17; move 19 3; add 20 18 19; ret 20; num 21 0; ret 21")
	// A local whose address is taken behind its first use has a slot from the beginning.
	fLowers(t, "void f(void){int a;a=1;&a;}", "0 3 [4]: slot 0 0; num 1 1; store w 0 1; slot 2 0; ret -1")
	// Locals in blocks and loops, each of its own.
	fLowers(t, "void f(void){{int a=1;}{int a=2;}for(int a=3;0;);}", "0 8 []: num 3 1; move 0 3; num 4 2; move 1 4; num 5 3; move 2 5; label 0; num 6 0; num 7 0; if eq 6 7 2; label 1; jump 0; label 2; ret -1")
	// A local that is asked for as another kind than its own has a slot, one whose address is only read and written not.
	fLowers(t, "void f(char a){*(unsigned char*)&a;}", "1 4 [1]: slot 1 0; store i8 1 0; slot 2 0; load u8 3 2; ret -1")
	fLowers(t, "void f(char a){*(char*)&a;}", "1 2 []: move 1 0; ret -1")
	fLowers(t, "void f(int a){*(unsigned*)&a=5;(*(unsigned*)&a)++;}", "1 5 []: num 1 5; move 0 1; num 2 1; move 3 0; add 4 3 2; move 0 4; ret -1")
	fLowers(t, "void f(int*p){char**q=(char**)&p;}", "1 4 [4]: slot 2 0; store w 2 0; slot 3 0; move 1 3; ret -1")
}

// Initial values of locals.
func TestLowerInits(t *testing.T) {
	fLowers(t, "void f(void){int a[3]={1,2};}", "0 7 [12]: slot 0 0; zero 0 12; slot 1 0; num 2 1; store w 1 2; slot 3 0; num 4 4; add 5 3 4; num 6 2; store w 5 6; ret -1")
	fLowers(t, "void f(void){char a[]=\"\\377\";}", "0 7 [2]: slot 0 0; zero 0 2; slot 1 0; num 2 4294967295; store i8 1 2; slot 3 0; num 4 1; add 5 3 4; num 6 0; store i8 5 6; ret -1")
	fLowers(t, "struct S{int a,b;};void f(struct S*p){struct S s=*p;}", "1 3 [8]: slot 1 0; move 2 0; copy 1 2 8; ret -1")
	fLowers(t, "void f(void){int a=7;}", "0 2 []: num 1 7; move 0 1; ret -1")
}

// Each form of value, with the registers by number.
func TestLowerValues(t *testing.T) {
	for _, c := range [][2]string{
		{"7", "num 5 7"}, {"'a'", "num 5 97"}, {"4294967295", "num 5 4294967295"}, {"sizeof(struct S)", "num 5 16"}, {"(int*)0", "num 5 0"},
		{"gi", "addr 5 gi; load w 6 5"}, {"ga", "addr 5 ga"}, {"\"s\"", "addr 5 $0"}, {"h", "addr 5 h"}, {"&gi", "addr 5 gi"}, {"gr", "addr 5 gr"},
		{"a", "move 5 0"}, {"p", "move 5 3"}, {"c", "move 5 4"}, {"*p", "move 5 3; load w 6 5"}, {"gc", "addr 5 gc; load i8 6 5"}, {"gb", "addr 5 gb; load u8 6 5"}, {"gh", "addr 5 gh; load i16 6 5"}, {"gw", "addr 5 gw; load u16 6 5"}, {"gu", "addr 5 gu; load w 6 5"}, {"gp", "addr 5 gp; load w 6 5"}, {"hp", "addr 5 hp; load w 6 5"},
		{"a=1", "num 5 1; move 0 5"}, {"a=b", "move 5 1; move 0 5"}, {"p=0", "num 5 0; move 3 5"}, {"c=a", "move 5 0; narrow i8 6 5; move 4 6"}, {"c=c", "move 5 4; move 4 5"}, {"a=b=1", "num 5 1; move 1 5; move 0 5"}, {"a=c=b", "move 5 1; narrow i8 6 5; move 4 6; move 0 6"}, {"a=a=a", "move 5 0; move 0 5; move 0 5"},
		{"gi=1", "addr 5 gi; num 6 1; store w 5 6"}, {"*p=a", "move 5 3; move 6 0; store w 5 6"}, {"gc=a", "addr 5 gc; move 6 0; narrow i8 7 6; store i8 5 7"}, {"gb=1", "addr 5 gb; num 6 1; narrow u8 7 6; store u8 5 7"}, {"gh=1", "addr 5 gh; num 6 1; narrow i16 7 6; store i16 5 7"}, {"gw=1", "addr 5 gw; num 6 1; narrow u16 7 6; store u16 5 7"}, {"gp=0", "addr 5 gp; num 6 0; store w 5 6"}, {"a=gi=2", "addr 5 gi; num 6 2; store w 5 6; move 0 6"}, {"gi=gu=3", "addr 5 gi; addr 6 gu; num 7 3; store w 6 7; store w 5 7"}, {"hp=h", "addr 5 hp; addr 6 h; store w 5 6"},
		{"(char)a", "move 5 0; narrow i8 6 5"}, {"(unsigned char)a", "move 5 0; narrow u8 6 5"}, {"(short)a", "move 5 0; narrow i16 6 5"}, {"(unsigned short)a", "move 5 0; narrow u16 6 5"}, {"(int)a", "move 5 0"}, {"(unsigned)a", "move 5 0"}, {"(char*)p", "move 5 3"},
		{"-a", "num 5 0; move 6 0; sub 7 5 6"}, {"~a", "move 5 0; num 6 4294967295; xor 7 5 6"}, {"+a", "move 5 0"}, {"!a", "move 5 0; num 6 0; sub 7 5 6; num 8 1; sltu 9 7 8"}, {"!p", "move 5 3; num 6 0; sub 7 5 6; num 8 1; sltu 9 7 8"},
		{"a,b", "move 5 0; move 6 1"}, {"a=1,b=2,a", "num 5 1; move 0 5; num 6 2; move 1 6; move 7 0"}, {"a=(b,2)", "move 5 1; num 6 2; move 0 6"}, {"(void)a", "move 5 0; num 6 0"}, {"(void)v()", "call -1 v; num 5 0"}, {"v(),a", "call -1 v; move 5 0"}, {"gx=gy,a", "addr 5 gx; addr 6 gy; copy 5 6 8; move 7 0"},
		{"gx=gy", "addr 5 gx; addr 6 gy; copy 5 6 8"}, {"gr=gt[1]", "addr 5 gr; addr 6 gt; num 7 1; num 8 16; mul 9 7 8; add 10 6 9; copy 5 10 16"}, {"gr.n", "addr 5 gr; num 6 4; add 7 5 6; load w 8 7"}, {"gr.c", "addr 5 gr; load i8 6 5"}, {"gr.h=1", "addr 5 gr; num 6 8; add 7 5 6; num 8 1; narrow i16 9 8; store i16 7 9"}, {"(&gr)->p", "addr 5 gr; num 6 12; add 7 5 6; load w 8 7"},
	} {
		exprLowers(t, c[0], c[1])
	}
}

func TestLowerArithmetic(t *testing.T) {
	t.Parallel()
	for _, c := range [][3]string{
		{"+", "add", "add"}, {"-", "sub", "sub"}, {"*", "mul", "mul"}, {"/", "div", "divu"}, {"%", "rem", "remu"}, {"&", "and", "and"}, {"|", "or", "or"}, {"^", "xor", "xor"}, {"<<", "sll", "sll"}, {">>", "sra", "srl"},
	} {
		exprLowers(t, "a"+c[0]+"b", "move 5 0; move 6 1; "+c[1]+" 7 5 6")
		exprLowers(t, "u"+c[0]+"b", "move 5 2; move 6 1; "+c[2]+" 7 5 6")
		shifts := c[0] == "<<" || c[0] == ">>"
		second := map[bool]string{true: c[1], false: c[2]}[shifts]
		exprLowers(t, "a"+c[0]+"u", "move 5 0; move 6 2; "+second+" 7 5 6")
		// As assignments: of a local in a register and at a place, of words and of kinds that are narrower.
		exprLowers(t, "a"+c[0]+"=b", "move 5 1; move 6 0; "+c[1]+" 7 6 5; move 0 7")
		exprLowers(t, "u"+c[0]+"=b", "move 5 1; move 6 2; "+c[2]+" 7 6 5; move 2 7")
		exprLowers(t, "c"+c[0]+"=b", "move 5 1; move 6 4; "+c[1]+" 7 6 5; narrow i8 8 7; move 4 8")
		exprLowers(t, "gi"+c[0]+"=b", "addr 5 gi; move 6 1; load w 7 5; "+c[1]+" 8 7 6; store w 5 8")
		exprLowers(t, "gb"+c[0]+"=b", "addr 5 gb; move 6 1; load u8 7 5; "+c[1]+" 8 7 6; narrow u8 9 8; store u8 5 9")
		exprLowers(t, "*p"+c[0]+"=a", "move 5 3; move 6 0; load w 7 5; "+c[1]+" 8 7 6; store w 5 8")
	}
	// Each kind, kept in a register.
	for of, narrow := range map[string]string{"char": "; narrow i8 5 4", "unsigned char": "; narrow u8 5 4", "short": "; narrow i16 5 4", "unsigned short": "; narrow u16 5 4", "int": "", "unsigned": ""} {
		last := map[bool]int{true: 4, false: 5}[narrow == ""]
		for op, alu := range map[string]string{"+": "add", "-": "sub"} {
			for text, gives := range map[string]int{"x" + op + op: 3, op + op + "x": last} {
				fLowers(t, "int f("+of+" x){int y;y="+text+";return y;}", fmt.Sprintf("1 %d []: num 2 1; move 3 0; %s 4 3 2%s; move 0 %d; move 1 %d; move %d 1; ret %d; num %d 0; ret %d", last+3, alu, narrow, last, gives, last+1, last+1, last+2, last+2))
			}
		}
	}
	// The register of an update's value: the old one or the new one, narrowed.
	for _, c := range [][2]string{
		{"b=a++", "num 5 1; move 6 0; add 7 6 5; move 0 7; move 1 6"}, {"b=++a", "num 5 1; move 6 0; add 7 6 5; move 0 7; move 1 7"}, {"b=a--", "num 5 1; move 6 0; sub 7 6 5; move 0 7; move 1 6"}, {"b=--a", "num 5 1; move 6 0; sub 7 6 5; move 0 7; move 1 7"}, {"b=(a+=2)", "num 5 2; move 6 0; add 7 6 5; move 0 7; move 1 7"}, {"a=a++", "num 5 1; move 6 0; add 7 6 5; move 0 7; move 0 6"},
		{"b=c++", "num 5 1; move 6 4; add 7 6 5; narrow i8 8 7; move 4 8; move 1 6"}, {"b=++c", "num 5 1; move 6 4; add 7 6 5; narrow i8 8 7; move 4 8; move 1 8"},
		{"b=gi++", "addr 5 gi; num 6 1; load w 7 5; add 8 7 6; store w 5 8; move 1 7"}, {"b=--gi", "addr 5 gi; num 6 1; load w 7 5; sub 8 7 6; store w 5 8; move 1 8"}, {"b=gh++", "addr 5 gh; num 6 1; load i16 7 5; add 8 7 6; narrow i16 9 8; store i16 5 9; move 1 7"}, {"b=++gw", "addr 5 gw; num 6 1; load u16 7 5; add 8 7 6; narrow u16 9 8; store u16 5 9; move 1 9"}, {"b=gc--", "addr 5 gc; num 6 1; load i8 7 5; sub 8 7 6; narrow i8 9 8; store i8 5 9; move 1 7"}, {"b=--gb", "addr 5 gb; num 6 1; load u8 7 5; sub 8 7 6; narrow u8 9 8; store u8 5 9; move 1 9"}, {"gi=gi++", "addr 5 gi; addr 6 gi; num 7 1; load w 8 6; add 9 8 7; store w 6 9; store w 5 8"},
	} {
		exprLowers(t, c[0], c[1])
	}
}

func TestLowerPointers(t *testing.T) {
	for _, c := range [][2]string{
		{"p+a", "move 5 3; move 6 0; num 7 4; mul 8 6 7; add 9 5 8"}, {"p-a", "move 5 3; move 6 0; num 7 4; mul 8 6 7; sub 9 5 8"}, {"a+p", "move 5 0; move 6 3; num 7 4; mul 8 5 7; add 9 6 8"}, {"p[a]", "move 5 3; move 6 0; num 7 4; mul 8 6 7; add 9 5 8; load w 10 9"}, {"p-ga", "move 5 3; addr 6 ga; sub 7 5 6; num 8 4; div 9 7 8"}, {"a=p-ga", "move 5 3; addr 6 ga; sub 7 5 6; num 8 4; div 9 7 8; move 0 9"},
		// Of one byte nothing is scaled.
		{"gs+a", "addr 5 gs; move 6 0; add 7 5 6"}, {"gs-a", "addr 5 gs; move 6 0; sub 7 5 6"}, {"a+gs", "move 5 0; addr 6 gs; add 7 6 5"}, {"gs[a]", "addr 5 gs; move 6 0; add 7 5 6; load i8 8 7"}, {"gs-gs", "addr 5 gs; addr 6 gs; sub 7 5 6"}, {"a=gs-gs", "addr 5 gs; addr 6 gs; sub 7 5 6; move 0 7"},
		{"gt[a].n=b", "addr 5 gt; move 6 0; num 7 16; mul 8 6 7; add 9 5 8; num 10 4; add 11 9 10; move 12 1; store w 11 12"}, {"gt+1", "addr 5 gt; num 6 1; num 7 16; mul 8 6 7; add 9 5 8"}, {"&gt[1]-gt", "addr 5 gt; num 6 1; num 7 16; mul 8 6 7; add 9 5 8; addr 10 gt; sub 11 9 10; num 12 16; div 13 11 12"},
		// Slides, in registers and at places.
		{"p++", "num 5 1; move 6 3; num 7 4; mul 8 5 7; add 9 6 8; move 3 9"}, {"gp=p++", "addr 5 gp; num 6 1; move 7 3; num 8 4; mul 9 6 8; add 10 7 9; move 3 10; store w 5 7"}, {"gp=++p", "addr 5 gp; num 6 1; move 7 3; num 8 4; mul 9 6 8; add 10 7 9; move 3 10; store w 5 10"}, {"p-=a", "move 5 0; move 6 3; num 7 4; mul 8 5 7; sub 9 6 8; move 3 9"}, {"gp--", "addr 5 gp; num 6 1; load w 7 5; num 8 4; mul 9 6 8; sub 10 7 9; store w 5 10"}, {"p=gp++", "addr 5 gp; num 6 1; load w 7 5; num 8 4; mul 9 6 8; add 10 7 9; store w 5 10; move 3 7"}, {"p=(gp+=a)", "addr 5 gp; move 6 0; load w 7 5; num 8 4; mul 9 6 8; add 10 7 9; store w 5 10; move 3 10"}, {"*p++", "num 5 1; move 6 3; num 7 4; mul 8 5 7; add 9 6 8; move 3 9; load w 10 6"}, {"*++p", "num 5 1; move 6 3; num 7 4; mul 8 5 7; add 9 6 8; move 3 9; load w 10 9"},
	} {
		exprLowers(t, c[0], c[1])
	}
	fLowers(t, "void f(char*s,char**t){s++;--*t;}", "2 9 []: num 2 1; move 3 0; add 4 3 2; move 0 4; move 5 1; num 6 1; load w 7 5; sub 8 7 6; store w 5 8; ret -1")
	// A pointer whose own address is taken is no local in a register.
	fLowers(t, "void f(int*p){&p;p++;}", "1 9 [4]: slot 1 0; store w 1 0; slot 2 0; slot 3 0; num 4 1; load w 5 3; num 6 4; mul 7 4 6; add 8 5 7; store w 3 8; ret -1")
}

func TestLowerComparisons(t *testing.T) {
	for _, c := range []struct{ sign, value, unsigned, test string }{
		{"<", "slt 7 5 6", "sltu 7 5 6", "ge# 5 6"}, {">", "slt 7 6 5", "sltu 7 6 5", "ge# 6 5"}, {">=", "slt 7 5 6; num 8 1; xor 9 7 8", "sltu 7 5 6; num 8 1; xor 9 7 8", "lt# 5 6"}, {"<=", "slt 7 6 5; num 8 1; xor 9 7 8", "sltu 7 6 5; num 8 1; xor 9 7 8", "lt# 6 5"}, {"==", "sub 7 5 6; num 8 1; sltu 9 7 8", "sub 7 5 6; num 8 1; sltu 9 7 8", "ne 5 6"}, {"!=", "sub 7 5 6; num 8 0; sltu 9 8 7", "sub 7 5 6; num 8 0; sltu 9 8 7", "eq 5 6"},
	} {
		signed, unsigned := strings.Replace(c.test, "#", "", 1), strings.Replace(c.test, "#", "u", 1)
		exprLowers(t, "a"+c.sign+"b", "move 5 0; move 6 1; "+c.value)
		exprLowers(t, "u"+c.sign+"b", "move 5 2; move 6 1; "+c.unsigned)
		exprLowers(t, "a"+c.sign+"u", "move 5 0; move 6 2; "+c.unsigned)
		exprLowers(t, "p"+c.sign+"ga", "move 5 3; addr 6 ga; "+c.unsigned)
		exprLowers(t, "if(a"+c.sign+"b)", "move 5 0; move 6 1; if "+signed+" 0; label 0")
		exprLowers(t, "if(u"+c.sign+"b)", "move 5 2; move 6 1; if "+unsigned+" 0; label 0")
		exprLowers(t, "if(p"+c.sign+"ga)", "move 5 3; addr 6 ga; if "+unsigned+" 0; label 0")
		// Within another value it is none of a test's.
		exprLowers(t, "if((a"+c.sign+"b)+1);else", "move 5 0; move 6 1; "+c.value+map[bool]string{true: "; num 8 1; add 9 7 8; num 10 0; if eq 9 10 0", false: "; num 10 1; add 11 9 10; num 12 0; if eq 11 12 0"}[len(c.sign) == 1]+"; jump 1; label 0; label 1")
	}
	// Tests that are no comparisons.
	for _, c := range [][2]string{
		{"if(a)", "move 5 0; num 6 0; if eq 5 6 0; label 0"}, {"if(p)", "move 5 3; num 6 0; if eq 5 6 0; label 0"}, {"if(!a)", "move 5 0; num 6 0; if ne 5 6 0; label 0"}, {"if(!p)", "move 5 3; num 6 0; if ne 5 6 0; label 0"}, {"if(!!a)", "move 5 0; num 6 0; sub 7 5 6; num 8 1; sltu 9 7 8; num 10 0; if ne 9 10 0; label 0"}, {"if(a+b)", "move 5 0; move 6 1; add 7 5 6; num 8 0; if eq 7 8 0; label 0"}, {"if(a=b)", "move 5 1; move 0 5; num 6 0; if eq 5 6 0; label 0"}, {"if(a,b<1)", "move 5 0; move 6 1; num 7 1; slt 8 6 7; num 9 0; if eq 8 9 0; label 0"}, {"if(h())", "call 5 h; num 6 0; if eq 5 6 0; label 0"}, {"if(1)", "num 5 1; num 6 0; if eq 5 6 0; label 0"}, {"if((char)(a<b))", "move 5 0; move 6 1; slt 7 5 6; narrow i8 8 7; num 9 0; if eq 8 9 0; label 0"}, {"if((int)(a<b))", "move 5 0; move 6 1; if ge 5 6 0; label 0"},
	} {
		exprLowers(t, c[0], c[1])
	}
}

func TestLowerChoices(t *testing.T) {
	for _, c := range [][2]string{
		{"a?1:2", "move 6 0; num 7 0; if eq 6 7 0; num 8 1; move 5 8; jump 1; label 0; num 9 2; move 5 9; label 1"}, {"a<b?a:b", "move 6 0; move 7 1; if ge 6 7 0; move 8 0; move 5 8; jump 1; label 0; move 9 1; move 5 9; label 1"}, {"b=a?1:2", "move 6 0; num 7 0; if eq 6 7 0; num 8 1; move 5 8; jump 1; label 0; num 9 2; move 5 9; label 1; move 1 5"}, {"a?b?1:2:3", "move 6 0; num 7 0; if eq 6 7 0; move 9 1; num 10 0; if eq 9 10 2; num 11 1; move 8 11; jump 3; label 2; num 12 2; move 8 12; label 3; move 5 8; jump 1; label 0; num 13 3; move 5 13; label 1"}, {"a?p:0", "move 6 0; num 7 0; if eq 6 7 0; move 8 3; move 5 8; jump 1; label 0; num 9 0; move 5 9; label 1"},
		{"a&&b", "num 5 0; move 6 0; num 7 0; if eq 6 7 0; move 8 1; num 9 0; if eq 8 9 0; num 5 1; label 0"}, {"a<1&&p", "num 5 0; move 6 0; num 7 1; if ge 6 7 0; move 8 3; num 9 0; if eq 8 9 0; num 5 1; label 0"}, {"c=a&&b", "num 5 0; move 6 0; num 7 0; if eq 6 7 0; move 8 1; num 9 0; if eq 8 9 0; num 5 1; label 0; narrow i8 10 5; move 4 10"}, {"a&&b&&u", "num 5 0; num 6 0; move 7 0; num 8 0; if eq 7 8 1; move 9 1; num 10 0; if eq 9 10 1; num 6 1; label 1; num 11 0; if eq 6 11 0; move 12 2; num 13 0; if eq 12 13 0; num 5 1; label 0"},
		{"a||b", "num 5 1; move 6 0; num 7 0; if ne 6 7 0; move 8 1; num 9 0; if ne 8 9 0; num 5 0; label 0"}, {"a<1||p", "num 5 1; move 6 0; num 7 1; slt 8 6 7; num 9 0; if ne 8 9 0; move 10 3; num 11 0; sub 12 10 11; num 13 0; sltu 14 13 12; num 15 0; if ne 14 15 0; num 5 0; label 0"}, {"a||b||u", "num 5 1; num 6 1; move 7 0; num 8 0; if ne 7 8 1; move 9 1; num 10 0; if ne 9 10 1; num 6 0; label 1; num 11 0; if ne 6 11 0; move 12 2; num 13 0; if ne 12 13 0; num 5 0; label 0"}, {"if(a||b)", "num 5 1; move 6 0; num 7 0; if ne 6 7 1; move 8 1; num 9 0; if ne 8 9 1; num 5 0; label 1; num 10 0; if eq 5 10 0; label 0"}, {"if(a&&b)", "num 5 0; move 6 0; num 7 0; if eq 6 7 1; move 8 1; num 9 0; if eq 8 9 1; num 5 1; label 1; num 10 0; if eq 5 10 0; label 0"},
		// Without a value: a register is made for it, and nothing moved.
		{"a?v():v()", "move 6 0; num 7 0; if eq 6 7 0; call -1 v; jump 1; label 0; call -1 v; label 1"}, {"a?v():w(1)", "move 6 0; num 7 0; if eq 6 7 0; call -1 v; jump 1; label 0; num 8 1; call -1 w 8; label 1"}, {"a?gx=gy:(gy=gx)", "move 6 0; num 7 0; if eq 6 7 0; addr 8 gx; addr 9 gy; copy 8 9 8; jump 1; label 0; addr 10 gy; addr 11 gx; copy 10 11 8; label 1"}, {"a?b?v():v():v()", "move 6 0; num 7 0; if eq 6 7 0; move 9 1; num 10 0; if eq 9 10 2; call -1 v; jump 3; label 2; call -1 v; label 3; jump 1; label 0; call -1 v; label 1"}, {"(a?v():v()),b", "move 6 0; num 7 0; if eq 6 7 0; call -1 v; jump 1; label 0; call -1 v; label 1; move 8 1"},
		// A cast to void has a register: with one in both, in the first alone, and in the second alone.
		{"a?(void)1:(void)2", "move 6 0; num 7 0; if eq 6 7 0; num 8 1; num 9 0; move 5 9; jump 1; label 0; num 10 2; num 11 0; move 5 11; label 1"}, {"a?(void)0:v()", "move 6 0; num 7 0; if eq 6 7 0; num 8 0; num 9 0; move 5 9; jump 1; label 0; call -1 v; label 1"}, {"a?v():(void)0", "move 6 0; num 7 0; if eq 6 7 0; call -1 v; jump 1; label 0; num 8 0; num 9 0; label 1"}, {"b?a?v():(void)0:(void)0", "move 6 1; num 7 0; if eq 6 7 0; move 9 0; num 10 0; if eq 9 10 2; call -1 v; jump 3; label 2; num 11 0; num 12 0; label 3; jump 1; label 0; num 13 0; num 14 0; label 1"}, {"b?(void)0:a?v():(void)0", "move 6 1; num 7 0; if eq 6 7 0; num 8 0; num 9 0; move 5 9; jump 1; label 0; move 11 0; num 12 0; if eq 11 12 2; call -1 v; jump 3; label 2; num 13 0; num 14 0; label 3; label 1"},
	} {
		exprLowers(t, c[0], c[1])
	}
}

func TestLowerCalls(t *testing.T) {
	for _, c := range [][2]string{
		{"v()", "call -1 v"}, {"h()", "call 5 h"}, {"a=h()", "call 5 h; move 0 5"}, {"w(a)", "move 5 0; call -1 w 5"}, {"k(a,b)", "move 5 0; move 6 1; narrow i8 7 6; call 8 k 5 7"}, {"k(a,c)", "move 5 0; move 6 4; call 7 k 5 6"}, {"k(k(1,2),3)", "num 5 1; num 6 2; narrow i8 7 6; call 8 k 5 7; num 9 3; narrow i8 10 9; call 11 k 8 10"}, {"q(p)", "move 5 3; call 6 q 5"}, {"q(0)", "num 5 0; call 6 q 5"}, {"*q(p)", "move 5 3; call 6 q 5; load w 7 6"}, {"q(p)[a]=b", "move 5 3; call 6 q 5; move 7 0; num 8 4; mul 9 7 8; add 10 6 9; move 11 1; store w 10 11"},
		{"putchar(a)", "move 5 0; call 6 putchar 5"}, {"getchar()", "call 5 getchar"}, {"exit(a)", "move 5 0; call -1 exit 5"}, {"a=putchar(getchar())", "call 5 getchar; call 6 putchar 5; move 0 6"}, {"exit(1),a", "num 5 1; call -1 exit 5; move 6 0"},
		// Through pointers: the pointer first.
		{"hp()", "addr 5 hp; load w 6 5; callr 7 6"}, {"kp(a,b)", "addr 5 kp; load w 6 5; move 7 0; move 8 1; narrow i8 9 8; callr 10 6 7 9"}, {"vp()", "addr 5 vp; load w 6 5; callr -1 6"}, {"wp(a)", "addr 5 wp; load w 6 5; move 7 0; callr -1 6 7"}, {"(*hp)()", "addr 5 hp; load w 6 5; callr 7 6"}, {"(&h)()", "addr 5 h; callr 6 5"}, {"(*h)()", "addr 5 h; callr 6 5"}, {"(a?h:hp)()", "move 6 0; num 7 0; if eq 6 7 0; addr 8 h; move 5 8; jump 1; label 0; addr 9 hp; load w 10 9; move 5 10; label 1; callr 11 5"}, {"*qp(p)", "addr 5 qp; load w 6 5; move 7 3; callr 8 6 7; load w 9 8"},
	} {
		exprLowers(t, c[0], c[1])
	}
	fLowers(t, "int g(int a,int b,int c,int d,int e,int f,int g,int h){return a;}int f(void){return g(1,2,3,4,5,6,7,8);}", "0 10 []: num 0 1; num 1 2; num 2 3; num 3 4; num 4 5; num 5 6; num 6 7; num 7 8; call 8 g 0 1 2 3 4 5 6 7; ret 8; num 9 0; ret 9")
	// Functions that stand behind, and itself.
	fLowers(t, "void g(void);void f(void){g();f();}void g(void){}", "0 0 []: call -1 g; call -1 f; ret -1")
	// A param that is a function, and pointers to functions in registers.
	fLowers(t, "int f(int g(int)){return g(2);}", "1 5 []: move 1 0; num 2 2; callr 3 1 2; ret 3; num 4 0; ret 4")
	// Results of each kind are words.
	for _, gives := range []string{"int", "unsigned", "char", "unsigned short", "int*"} {
		fLowers(t, gives+" g(void){}void f(void){g();}", "0 1 []: call 0 g; ret -1")
	}
}

func TestLowerSteps(t *testing.T) {
	for _, c := range [][2]string{
		{"", ""}, {";", ""}, {"{}", ""}, {"a;b", "move 5 0; move 6 1"}, {"{a;{b;}}", "move 5 0; move 6 1"}, {"return", "ret -1"}, {"return;a", "ret -1; move 5 0"},
		{"if(a)b", "move 5 0; num 6 0; if eq 5 6 0; move 7 1; label 0"}, {"if(a)b;else u", "move 5 0; num 6 0; if eq 5 6 0; move 7 1; jump 1; label 0; move 8 2; label 1"}, {"if(a);else", "move 5 0; num 6 0; if eq 5 6 0; jump 1; label 0; label 1"}, {"if(a)if(b)1;else 2", "move 5 0; num 6 0; if eq 5 6 0; move 7 1; num 8 0; if eq 7 8 1; num 9 1; jump 2; label 1; num 10 2; label 2; label 0"}, {"if(a){if(b)1;}else 2", "move 5 0; num 6 0; if eq 5 6 0; move 7 1; num 8 0; if eq 7 8 2; num 9 1; label 2; jump 1; label 0; num 10 2; label 1"},
		{"while(a)b", "label 0; move 5 0; num 6 0; if eq 5 6 1; move 7 1; jump 0; label 1"}, {"while(a<b);", "label 0; move 5 0; move 6 1; if ge 5 6 1; jump 0; label 1"}, {"while(1){break;continue;}", "label 0; num 5 1; num 6 0; if eq 5 6 1; jump 1; jump 0; jump 0; label 1"},
		{"do b;while(a)", "label 0; move 5 1; label 1; move 6 0; num 7 0; if eq 6 7 2; jump 0; label 2"}, {"do{break;continue;}while(a>b)", "label 0; jump 2; jump 1; label 1; move 5 0; move 6 1; if ge 6 5 2; jump 0; label 2"},
		{"for(a=1;a<b;a++)u", "num 5 1; move 0 5; label 0; move 6 0; move 7 1; if ge 6 7 2; move 8 2; label 1; num 9 1; move 10 0; add 11 10 9; move 0 11; jump 0; label 2"}, {"for(;;)", "label 0; num 5 1; num 6 0; if eq 5 6 2; label 1; jump 0; label 2"}, {"for(;;){break;continue;}", "label 0; num 5 1; num 6 0; if eq 5 6 2; jump 2; jump 1; label 1; jump 0; label 2"}, {"for(a;b;u)", "move 5 0; label 0; move 6 1; num 7 0; if eq 6 7 2; label 1; move 8 2; jump 0; label 2"},
		{"for(;a?1:2;)", "label 0; move 6 0; num 7 0; if eq 6 7 3; num 8 1; move 5 8; jump 4; label 3; num 9 2; move 5 9; label 4; num 10 0; if eq 5 10 2; label 1; jump 0; label 2"},
		// Loops within each other: break and continue are the innermost one's.
		{"while(a)while(b){break;continue;}", "label 0; move 5 0; num 6 0; if eq 5 6 1; label 2; move 7 1; num 8 0; if eq 7 8 3; jump 3; jump 2; jump 2; label 3; jump 0; label 1"}, {"while(a){do break;while(b);break;}", "label 0; move 5 0; num 6 0; if eq 5 6 1; label 2; jump 4; label 3; move 7 1; num 8 0; if eq 7 8 4; jump 2; label 4; jump 1; jump 0; label 1"}, {"for(;;){while(a)continue;continue;}", "label 0; num 5 1; num 6 0; if eq 5 6 2; label 3; move 7 0; num 8 0; if eq 7 8 4; jump 3; jump 3; label 4; jump 1; label 1; jump 0; label 2"}, {"do for(;;)break;while(a)", "label 0; label 3; num 5 1; num 6 0; if eq 5 6 5; jump 5; label 4; jump 3; label 5; label 1; move 7 0; num 8 0; if eq 7 8 2; jump 0; label 2"},
		// Labels and gotos: the number is given by whichever comes first.
		{"goto l;l:", "jump 0; label 0"}, {"l:goto l", "label 0; jump 0"}, {"goto m;goto l;l:m:", "jump 0; jump 1; label 1; label 0"}, {"l:m:goto m;goto l", "label 0; label 1; jump 1; jump 0"}, {"if(a)goto l;l:", "move 5 0; num 6 0; if eq 5 6 0; jump 1; label 0; label 1"}, {"goto l;while(a){l:b;}", "jump 0; label 1; move 5 0; num 6 0; if eq 5 6 2; label 0; move 7 1; jump 1; label 2"}, {"l:;goto l;m:;goto m;goto l", "label 0; jump 0; label 1; jump 1; jump 0"},
	} {
		exprLowers(t, c[0], c[1])
	}
	fLowers(t, "int f(void){return 1;return 2;}", "0 3 []: num 0 1; ret 0; num 1 2; ret 1; num 2 0; ret 2")
	fLowers(t, "char f(int a){return a;}", "1 4 []: move 1 0; narrow i8 2 1; ret 2; num 3 0; ret 3")
	fLowers(t, "int*f(void){return 0;}", "0 2 []: num 0 0; ret 0; num 1 0; ret 1")
	fLowers(t, "int*f(int*p){return p+1;}", "1 7 []: move 1 0; num 2 1; num 3 4; mul 4 2 3; add 5 1 4; ret 5; num 6 0; ret 6")
}

func TestLowerSwitches(t *testing.T) {
	for _, c := range [][2]string{
		{"switch(a);", "move 5 0; jump 0; label 0"}, {"switch(a){}", "move 5 0; jump 0; label 0"}, {"switch(a){b;}", "move 5 0; jump 0; move 6 1; label 0"}, {"switch(a)case 1:b", "move 5 0; num 6 1; if eq 5 6 1; jump 0; label 1; move 7 1; label 0"}, {"switch(a)default:b", "move 5 0; jump 1; label 1; move 6 1; label 0"},
		{"switch(a){case 1:case 2:b;break;default:u;}", "move 5 0; num 6 1; if eq 5 6 1; num 7 2; if eq 5 7 2; jump 3; label 1; label 2; move 8 1; jump 0; label 3; move 9 2; label 0"}, {"switch(a){default:b;case 7:u;case -1:c;}", "move 5 0; num 6 7; if eq 5 6 1; num 7 4294967295; if eq 5 7 2; jump 3; label 3; move 8 1; label 1; move 9 2; label 2; move 10 4; label 0"}, {"switch(a){case 2:;default:;case 1:;}", "move 5 0; num 6 2; if eq 5 6 1; num 7 1; if eq 5 7 2; jump 3; label 1; label 3; label 2; label 0"},
		{"switch(c){case 'a':;}", "move 5 4; num 6 97; if eq 5 6 1; jump 0; label 1; label 0"}, {"switch(a<b){case 0:;}", "move 5 0; move 6 1; slt 7 5 6; num 8 0; if eq 7 8 1; jump 0; label 1; label 0"},
		// Cases within other steps, labels given ahead of what these make.
		{"switch(a){while(b){case 1:u;}}", "move 5 0; num 6 1; if eq 5 6 1; jump 0; label 2; move 7 1; num 8 0; if eq 7 8 3; label 1; move 9 2; jump 2; label 3; label 0"}, {"switch(a)if(b)case 1:;else case 2:;", "move 5 0; num 6 1; if eq 5 6 1; num 7 2; if eq 5 7 2; jump 0; move 8 1; num 9 0; if eq 8 9 3; label 1; jump 4; label 3; label 2; label 4; label 0"}, {"switch(a)do{case 3:break;}while(b)", "move 5 0; num 6 3; if eq 5 6 1; jump 0; label 2; label 1; jump 4; label 3; move 7 1; num 8 0; if eq 7 8 4; jump 2; label 4; label 0"}, {"switch(a)for(;;)default:;", "move 5 0; jump 1; label 2; num 6 1; num 7 0; if eq 6 7 4; label 1; label 3; jump 2; label 4; label 0"}, {"switch(a){l:case 1:goto l;}", "move 5 0; num 6 1; if eq 5 6 1; jump 0; label 2; label 1; jump 2; label 0"}, {"switch(a){case 1:l:goto l;}", "move 5 0; num 6 1; if eq 5 6 1; jump 0; label 1; label 2; jump 2; label 0"}, {"goto l;switch(a)l:case 1:;", "jump 0; move 5 0; num 6 1; if eq 5 6 2; jump 1; label 0; label 2; label 1"},
		// Within one another, in a loop: break is the switch's, continue the loop's.
		{"switch(a){case 1:switch(b){case 1:;default:break;}case 2:;}", "move 5 0; num 6 1; if eq 5 6 1; num 7 2; if eq 5 7 2; jump 0; label 1; move 8 1; num 9 1; if eq 8 9 4; jump 5; label 4; label 5; jump 3; label 3; label 2; label 0"}, {"switch(a)switch(b)case 1:;", "move 5 0; jump 0; move 6 1; num 7 1; if eq 6 7 2; jump 1; label 2; label 1; label 0"}, {"switch(a)switch(b)default:break;", "move 5 0; jump 0; move 6 1; jump 2; label 2; jump 1; label 1; label 0"}, {"while(a)switch(b){case 1:continue;default:break;}", "label 0; move 5 0; num 6 0; if eq 5 6 1; move 7 1; num 8 1; if eq 7 8 3; jump 4; label 3; jump 0; label 4; jump 2; label 2; jump 0; label 1"}, {"for(;;){switch(a){break;}break;}", "label 0; num 5 1; num 6 0; if eq 5 6 2; move 7 0; jump 3; jump 3; label 3; jump 2; label 1; jump 0; label 2"}, {"do switch(a)while(b){break;continue;}while(u)", "label 0; move 5 0; jump 3; label 4; move 6 1; num 7 0; if eq 6 7 5; jump 5; jump 4; jump 4; label 5; label 3; label 1; move 8 2; num 9 0; if eq 8 9 2; jump 0; label 2"}, {"switch(a){switch(b){case 1:;}case 1:;}", "move 5 0; num 6 1; if eq 5 6 1; jump 0; move 7 1; num 8 1; if eq 7 8 3; jump 2; label 3; label 2; label 1; label 0"}, {"switch(a){case 1:;switch(b)default:;default:;}", "move 5 0; num 6 1; if eq 5 6 1; jump 2; label 1; move 7 1; jump 4; label 4; label 3; label 2; label 0"},
	} {
		exprLowers(t, c[0], c[1])
	}
}

// Data: pieces of each kind, texts, null pointers, and addresses.
func TestLowerData(t *testing.T) {
	for _, c := range []struct{ text, want string }{
		{"int a;", "a \"\\x00\\x00\\x00\\x00\" []"}, {"char a;", "a \"\\x00\" []"}, {"char a[3];", "a \"\\x00\\x00\\x00\" []"}, {"int a=258;", "a \"\\x02\\x01\\x00\\x00\" []"}, {"int a=-2;", "a \"\\xfe\\xff\\xff\\xff\" []"}, {"unsigned a=4294967295;", "a \"\\xff\\xff\\xff\\xff\" []"}, {"int a=0x12345678;", "a \"xV4\\x12\" []"}, {"short a=-2;", "a \"\\xfe\\xff\" []"}, {"unsigned short a=0x1234;", "a \"4\\x12\" []"}, {"char a=-1;", "a \"\\xff\" []"}, {"unsigned char a=200;", "a \"\\xc8\" []"}, {"char a=456;", "a \"\\xc8\" []"},
		{"short a[3]={1,-2};", "a \"\\x01\\x00\\xfe\\xff\\x00\\x00\" []"}, {"char a[]=\"ab\";", "a \"ab\\x00\" []"}, {"char a[2]=\"ab\";", "a \"ab\" []"}, {"char a[5]=\"ab\";", "a \"ab\\x00\\x00\\x00\" []"}, {"unsigned char a[]=\"\\377\";", "a \"\\xff\\x00\" []"}, {"char a[2][3]={\"ab\",\"c\"};", "a \"ab\\x00c\\x00\\x00\" []"}, {"struct S{char c;int n;short h;};struct S a={1,2,3};", "a \"\\x01\\x00\\x00\\x00\\x02\\x00\\x00\\x00\\x03\\x00\\x00\\x00\" []"}, {"union U{short h;char c[5];};union U a={258};", "a \"\\x02\\x01\\x00\\x00\\x00\\x00\" []"},
		{"int*a=0;", "a \"\\x00\\x00\\x00\\x00\" []"}, {"int*a=&b;", ""}, {"int b,*a=&b;", "b \"\\x00\\x00\\x00\\x00\" []\na \"\\x00\\x00\\x00\\x00\" [{0 b 0}]"}, {"int b[3],*a=b+3;", "b \"\\x00\\x00\\x00\\x00\\x00\\x00\\x00\\x00\\x00\\x00\\x00\\x00\" []\na \"\\x00\\x00\\x00\\x00\" [{0 b 12}]"}, {"char b[3],*a=1+b;", "b \"\\x00\\x00\\x00\" []\na \"\\x00\\x00\\x00\\x00\" [{0 b 1}]"}, {"char*a=\"xy\";", "a \"\\x00\\x00\\x00\\x00\" [{0 $0 0}]\n$0 \"xy\\x00\" []"}, {"char*a=\"xy\"+2;", "a \"\\x00\\x00\\x00\\x00\" [{0 $0 2}]\n$0 \"xy\\x00\" []"}, {"int(*a)(void)=main;", ""}, {"int main(void);int(*a)(void)=main;", "a \"\\x00\\x00\\x00\\x00\" [{0 main 0}]"}, {"void*a=&a;", "a \"\\x00\\x00\\x00\\x00\" [{0 a 0}]"},
		{"char*a[3]={\"x\",0,\"\"};", "a \"\\x00\\x00\\x00\\x00\\x00\\x00\\x00\\x00\\x00\\x00\\x00\\x00\" [{0 $0 0} {8 $1 0}]\n$0 \"x\\x00\" []\n$1 \"\\x00\" []"}, {"struct S{char c;char*s;int n;char*t;};struct S a={'c',\"s\",7,\"t\"+1};", "a \"c\\x00\\x00\\x00\\x00\\x00\\x00\\x00\\a\\x00\\x00\\x00\\x00\\x00\\x00\\x00\" [{4 $0 0} {12 $1 1}]\n$0 \"s\\x00\" []\n$1 \"t\\x00\" []"},
		{"void f(void){\"a\";\"a\";}int a=1;void g(void){\"b\";}", "$0 \"a\\x00\" []\n$1 \"a\\x00\" []\na \"\\x01\\x00\\x00\\x00\" []\n$2 \"b\\x00\" []"},
	} {
		ir, code, _, _ := lower(t, c.text+emptyMain)
		texts := []string{}
		for _, d := range ir.Data {
			texts = append(texts, dataText(d))
		}
		if got := strings.Join(texts, "\n"); got != c.want || (code == 0) != (c.want != "") {
			t.Errorf("%s: %d\n%s\nnot\n%s", c.text, code, got, c.want)
		}
	}
	ir := lowered(t, "void b(void){}int a;void c(void){\"s\";}int d;"+emptyMain)
	order := ""
	for _, d := range ir.Data {
		order += d.Name + " "
	}
	for _, f := range ir.Funs {
		order += f.Name + " "
	}
	if order != "a $0 d b c main " {
		t.Errorf("the order: %s", order)
	}
}

// lowerSays sees that Lower has a code, at the place that an @ marks.
func lowerSays(t *testing.T, code int, marked string) {
	t.Helper()
	text, line, col := unmarked(marked)
	ir, gotCode, gotLine, gotCol := lower(t, text)
	if gotCode != code || gotLine != line || gotCol != col || code != 0 && !sameIr(ir, impl.Ir{}) {
		t.Errorf("%.300q: %d, %d, %d, not %d, %d, %d", text, gotCode, gotLine, gotCol, code, line, col)
	}
}

func TestCodesOfLower(t *testing.T) {
	for _, c := range []struct {
		code   int
		marked string
	}{
		{1, "@" + filled("int a;", "int b;", impl.MaxSource+1)}, {2, "int a;\n@#"}, {3, "int a;@/*"}, {4, "\n@\"x"}, {5, `@"\q"`}, {6, "@09"}, {7, "@''"}, {8, "@" + strings.Repeat("a", impl.MaxName+1)}, {9, strings.Repeat("a ", impl.MaxTokens) + "@a"}, {10, "int main(void){return 0;@"}, {31, "@"}, {11, "@int f(void){" + strings.Repeat(";", impl.MaxNodes) + "}"},
		{20, "int main(void){\n return @x;}"}, {21, "int a;char @a;"}, {22, "void @a;"}, {23, "int main(void){1@=2;}"}, {24, "int main(void){main@*2;}"}, {25, "struct S{int a;};struct S s;int main(void){s@.b;}"}, {26, "int main(void){main@(1);}"}, {27, "int a[@0];"}, {28, "int a=@{1,2};"}, {29, "int main(void){@break;}"}, {30, "void f(void){@return 1;}"}, {31, "@int a;"}, {31, "int @f(void);int main(void){}"}, {32, "int a@[60000];"},
		// Check's code goes ahead of 33.
		{20, "char a[60000],b[60000];int main(void){return @x;}"}, {31, "@char a[60000],b[60000];"},
		{0, emptyMain},
	} {
		lowerSays(t, c.code, c.marked)
	}
	if ir, code, line, col := impl.Lower(nil); code != 31 || line != 1 || col != 1 || !sameIr(ir, impl.Ir{}) {
		t.Errorf("nothing: %v, %d, %d, %d", ir, code, line, col)
	}
}

func TestLowerNames(t *testing.T) {
	// What locals, labels and members are called makes no difference; globals and functions keep their names.
	a := lowered(t, "struct S{int a;};int g;int f(int x){struct S s;int y=x;l:s.a=y;if(x)goto l;return g;}"+emptyMain)
	b := lowered(t, "struct S{int q;};int g;int f(int y){struct S z;int s=y;out:z.q=s;if(y)goto out;return g;}"+emptyMain)
	if !sameIr(a, b) {
		t.Errorf("%s\n%s", irText(a), irText(b))
	}
	ir := lowered(t, fmt.Sprintf("int %s,_,A;int %s(void){return A;}", strings.Repeat("n", 40), strings.Repeat("m", 40))+emptyMain)
	if ir.Data[0].Name != strings.Repeat("n", 40) || ir.Data[1].Name != "_" || ir.Funs[0].Name != strings.Repeat("m", 40) {
		t.Errorf("%s", irText(ir))
	}
}
