package tests

import (
	"strconv"
	"strings"
	"testing"

	"loop.example/s01681/impl"
)

func TestTopsWithPlaces(t *testing.T) {
	shows(t, "", "unit@1")
	shows(t, " \n // x\n", "unit@1")
	shows(t, " int a;", "unit@1(var:a@6(base=6@2))")
	shows(t, "\n\n int\n  a;", "unit@1(var:a@4:3(base=6@3:2))")
	shows(t, "typedef int T;", "unit@1(typedef:T@13(base=6@9))")
	shows(t, "struct S {int a; char b, *c;};", "unit@1(structure.1:S@1(field:a@15(base=6@11) field:b@23(base=2@18) field:c@27(pointer@26(base=2@18))))")
	shows(t, "union U {int a;};", "unit@1(structure.2:U@1(field:a@14(base=6@10)))")
	shows(t, "enum E {A, B = 2, C,};", "unit@1(enumeration:E@1(enumer:A@9 enumer:B@12(number=2@16) enumer:C@19))")
	shows(t, "enum E {A};", "unit@1(enumeration:E@1(enumer:A@9))")
	shows(t, "int f(void) {}", "unit@1(definition:f@5(function@6(base=6@1) block@13))")
	shows(t, "int a, *b = 1, c[2] = {1, {2},};", "unit@1(var:a@5(base=6@1) var:b@9(pointer@8(base=6@1) number=1@13) var:c@16(array@17(base=6@1 number=2@18) list@23(number=1@24 list@27(number=2@28))))")
	shows(t, "int a;int b;", "unit@1(var:a@5(base=6@1) var:b@11(base=6@7))")
	shows(t, "int f(void), g(int x) = 1;", "unit@1(var:f@5(function@6(base=6@1)) var:g@14(function@15(base=6@1 param:x@20(base=6@16)) number=1@25))")
	shows(t, "struct S a; union U *b; enum E c;", "unit@1(var:a@10(tag.1:S@1) var:b@22(pointer@21(tag.2:U@13)) var:c@32(tag.3:E@25))")
	shows(t, "typedef int T; T a;", "unit@1(typedef:T@13(base=6@9) var:a@18(alias:T@16))")
}

func TestSpecs(t *testing.T) {
	for text, n := range map[string]string{
		"void": "1", "char": "2", "signed char": "2", "unsigned char": "3", "short": "4", "short int": "4", "signed short": "4", "signed short int": "4", "unsigned short": "5", "unsigned short int": "5",
		"int": "6", "signed": "6", "signed int": "6", "unsigned": "7", "unsigned int": "7",
	} {
		shows(t, text+" a;", "unit@1(var:a@"+strconv.Itoa(len(text)+2)+"(base="+n+"@1))")
		showsTop(t, text+" *a, b;", "var:a(pointer(base="+n+")) var:b(base="+n+")")
		showsTop(t, "typedef "+text+" a;", "typedef:a(base="+n+")")
		showsTop(t, "struct S {"+text+" a;};", "structure.1:S(field:a(base="+n+"))")
		showsTop(t, "int f(int, "+text+");", "var:f(function(base=6 param(base=6) param(base="+n+")))")
		showsStmt(t, text+" a;", "var:a(base="+n+")")
		showsStmt(t, "for ("+text+" a;;) ;", "for(var:a(base="+n+") empty empty empty)")
		showsExpr(t, "("+text+")a", "cast(base="+n+" name:a)")
		showsExpr(t, "sizeof("+text+")", "sizeoftype(base="+n+")")
		showsExpr(t, "sizeof("+text+"*)", "sizeoftype(pointer(base="+n+"))")
	}
	for _, text := range []string{
		"void |int", "void |void", "void |unsigned", "int |int", "int |short", "int |signed", "int |char", "char |char", "char |int", "char |unsigned", "short |short", "short |char", "short int |int",
		"signed |signed", "signed |unsigned", "unsigned |signed", "unsigned |void", "signed |void", "unsigned |struct S", "unsigned char |int", "signed |enum E", "struct S |int", "int |struct S", "struct |int", "enum |{", "union |;", "struct |\"s\"",
	} {
		stops(t, text+" a;")
		stops(t, "typedef "+text+" a;")
		stops(t, "struct S {"+text+" a;};")
		stops(t, "int f("+text+" a);")
		stops(t, "int f(){"+text+" a;}")
		stops(t, "int a = ("+text+")b;")
		stops(t, "int a = sizeof("+text+");")
	}
}

func TestDeclaratorsWithPlaces(t *testing.T) {
	shows(t, "int **a;", "unit@1(var:a@7(pointer@6(pointer@5(base=6@1))))")
	shows(t, "int *a[3];", "unit@1(var:a@6(array@7(pointer@5(base=6@1) number=3@8)))")
	shows(t, "int (*a)[3];", "unit@1(var:a@7(pointer@6(array@9(base=6@1 number=3@10))))")
	shows(t, "int a[2][3];", "unit@1(var:a@5(array@6(array@9(base=6@1 number=3@10) number=2@7)))")
	shows(t, "int a[];", "unit@1(var:a@5(array@6(base=6@1)))")
	shows(t, "int (*f(int x))(char y);", "unit@1(var:f@7(function@8(pointer@6(function@16(base=6@1 param:y@22(base=2@17))) param:x@13(base=6@9))))")
	shows(t, "int (((a)));", "unit@1(var:a@8(base=6@1))")
	shows(t, "int *(*(*a)(void))[2];", "unit@1(var:a@10(pointer@9(function@12(pointer@7(array@19(pointer@5(base=6@1) number=2@20))))))")
	shows(t, "int f(int, char *x, unsigned int *, struct S [2]);", "unit@1(var:f@5(function@6(base=6@1 param@7(base=6@7) param:x@18(pointer@17(base=2@12)) param@21(pointer@34(base=7@21)) param@37(array@46(tag.1:S@37 number=2@47)))))")
	shows(t, "int f(int (*)(void), int (x), int (int), int (()));", "unit@1(var:f@5(function@6(base=6@1 param@7(pointer@12(function@14(base=6@7))) param:x@27(base=6@22) param@31(function@35(base=6@31 param@36(base=6@36))) param@42(function@47(base=6@42)))))")
	shows(t, "int f(void x, void *, void [1], void (void));", "unit@1(var:f@5(function@6(base=6@1 param:x@12(base=1@7) param@15(pointer@20(base=1@15)) param@23(array@28(base=1@23 number=1@29)) param@33(function@38(base=1@33)))))")
}

// declarators have their type in #, where the specs' own stands in it.
var declarators = map[string]string{
	"a": "#", "*a": "pointer(#)", "***a": "pointer(pointer(pointer(#)))", "(a)": "#", "((a))": "#", "(*a)": "pointer(#)", "*(*a)": "pointer(pointer(#))", "*(a)": "pointer(#)", "(*(*(a)))": "pointer(pointer(#))",
	"a[1]": "array(# number=1)", "a[]": "array(#)", "(a)[]": "array(#)", "(a[])": "array(#)", "*a[]": "array(pointer(#))", "(*a)[]": "pointer(array(#))", "*(a[])": "array(pointer(#))", "(*a[])": "array(pointer(#))",
	"a[1][2][3]": "array(array(array(# number=3) number=2) number=1)", "(a[1])[2]": "array(array(# number=2) number=1)", "((a[1])[2])[3]": "array(array(array(# number=3) number=2) number=1)", "**a[1][2]": "array(array(pointer(pointer(#)) number=2) number=1)",
	"(*a)[1][2]": "pointer(array(array(# number=2) number=1))", "*(*a)[1]": "pointer(array(pointer(#) number=1))", "(*(*a)[1])[2]": "pointer(array(pointer(array(# number=2)) number=1))", "(*a[1])[2]": "array(pointer(array(# number=2)) number=1)",
	"a()": "function(#)", "a(void)": "function(#)", "(a)()": "function(#)", "(a())": "function(#)", "*a()": "function(pointer(#))", "(*a)()": "pointer(function(#))", "(**a)(void)": "pointer(pointer(function(#)))",
	"a(int)": "function(# param(base=6))", "a(int x)": "function(# param:x(base=6))", "a(int, int x, int)": "function(# param(base=6) param:x(base=6) param(base=6))", "a(int x, char *x)": "function(# param:x(base=6) param:x(pointer(base=2)))",
	"a()()": "function(function(#))", "a()[]": "function(array(#))", "a[]()": "array(function(#))", "a(int)(char)": "function(function(# param(base=2)) param(base=6))", "a[1](int)[2]": "array(function(array(# number=2) param(base=6)) number=1)",
	"(*a())()": "function(pointer(function(#)))", "(*a(int x))(char)": "function(pointer(function(# param(base=2))) param:x(base=6))", "(*(*a)())()": "pointer(function(pointer(function(#))))", "(*a[1])()": "array(pointer(function(#)) number=1)",
	"(*(*a())())()": "function(pointer(function(pointer(function(#)))))", "*(*(*a(void))[1])(int)": "function(pointer(array(pointer(function(pointer(#) param(base=6))) number=1)))", "(*a())[1]": "function(pointer(array(# number=1)))", "**(**a)[]": "pointer(pointer(array(pointer(pointer(#)))))",
	"a[b ? c : d]": "array(# condition(name:b name:c name:d))", "a[sizeof(int (*)(int))]": "array(# sizeoftype(pointer(function(base=6 param(base=6)))))", "a[(b, c)]": "array(# comma(name:b name:c))", "a[(b = c)]": "array(# assignment(name:b name:c))",
}

func TestDeclarators(t *testing.T) {
	for text, want := range declarators {
		want := strings.Replace(want, "#", "base=6", 1)
		showsTop(t, "int "+text+";", "var:a("+want+")")
		showsTop(t, "int "+text+"=1;", "var:a("+want+" number=1)")
		showsTop(t, "int b,"+text+",c;", "var:b(base=6) var:a("+want+") var:c(base=6)")
		showsTop(t, "typedef int "+text+";", "typedef:a("+want+")")
		showsTop(t, "union U {int b; int "+text+", "+text+";};", "structure.2:U(field:b(base=6) field:a("+want+") field:a("+want+"))")
		showsTop(t, "int f(int "+text+");", "var:f(function(base=6 param:a("+want+")))")
		showsTop(t, "int f(int, int "+text+", int);", "var:f(function(base=6 param(base=6) param:a("+want+") param(base=6)))")
		showsStmt(t, "int "+text+";", "var:a("+want+")")
		showsStmt(t, "for (int "+text+" = 1;;) ;", "for(var:a("+want+" number=1) empty empty empty)")
		showsTop(t, "struct S "+text+";", "var:a("+strings.Replace(want, "base=6", "tag.1:S", 1)+")")
		bare(t, text, want)
		bodies(t, text, want)
	}
}

// bare asks for the same type without its name, where the brackets around the name go as well.
func bare(t *testing.T, text, want string) {
	t.Helper()
	for strings.Contains(text, "(a)") {
		text = strings.ReplaceAll(text, "(a)", "a")
	}
	text = strings.Replace(text, "a", "", 1)
	if strings.Contains(text, "([") {
		// There an inner one would begin with a [, which it may not.
		return
	}
	showsTop(t, "int f(int "+text+");", "var:f(function(base=6 param("+want+")))")
	showsExpr(t, "(int"+text+")x", "cast("+want+" name:x)")
	showsExpr(t, "sizeof(int"+text+")", "sizeoftype("+want+")")
}

// bodies asks that a { may follow just the types that are functions.
func bodies(t *testing.T, text, want string) {
	t.Helper()
	if strings.HasPrefix(want, "function") {
		showsTop(t, "int "+text+"{}", "definition:a("+want+" block)")
		showsTop(t, "int "+text+"{} int b;", "definition:a("+want+" block) var:b(base=6)")
	} else {
		stops(t, "int "+text+"|{}")
	}
	stops(t, "int b, "+text+"|{}")
	stops(t, "typedef int "+text+"|{}")
	stops(t, "struct S {int "+text+"|{}")
	stops(t, "int f(){int "+text+"|{}")
	stops(t, "int f(int "+text+"|{}")
}

func TestNamelessDeclarators(t *testing.T) {
	for text, want := range map[string]string{
		"": "#", "*": "pointer(#)", "**": "pointer(pointer(#))", "(*)": "pointer(#)", "((*))": "pointer(#)", "*(*)": "pointer(pointer(#))", "(**)": "pointer(pointer(#))", "[]": "array(#)", "[1]": "array(# number=1)", "[1][]": "array(array(#) number=1)",
		"()": "function(#)", "(void)": "function(#)", "(int)": "function(# param(base=6))", "(int x)": "function(# param:x(base=6))", "(())": "function(#)", "((()))": "function(#)", "((void))": "function(#)", "((int))": "function(# param(base=6))", "(((int x)))": "function(# param:x(base=6))",
		"()()": "function(function(#))", "(())()": "function(function(#))", "((int)[1])": "function(array(# number=1) param(base=6))", "[]()": "array(function(#))", "()[]": "function(array(#))", "(())[]": "function(array(#))", "*()": "function(pointer(#))",
		"(*)()": "pointer(function(#))", "(*)[]": "pointer(array(#))", "(*[])": "array(pointer(#))", "(*())": "function(pointer(#))", "(*(*)())[1]": "pointer(function(pointer(array(# number=1))))", "((*)[2])": "pointer(array(# number=2))",
		"(struct S)": "function(# param(tag.1:S))", "(void, void)": "function(# param(base=1) param(base=1))", "(void *)": "function(# param(pointer(base=1)))", "(void x)": "function(# param:x(base=1))", "(void ())": "function(# param(function(base=1)))",
		"(unsigned, short x)": "function(# param(base=7) param:x(base=4))", "(*)(int (*)(int (*x)))": "pointer(function(# param(pointer(function(base=6 param:x(pointer(base=6)))))))",
	} {
		want := strings.Replace(want, "#", "base=6", 1)
		showsTop(t, "int f(int "+text+", char);", "var:f(function(base=6 param("+want+") param(base=2)))")
		showsExpr(t, "(int"+text+")x", "cast("+want+" name:x)")
		showsExpr(t, "sizeof(int"+text+")", "sizeoftype("+want+")")
		showsExpr(t, "sizeof(int(*)(int"+text+",char))", "sizeoftype(pointer(function(base=6 param("+want+") param(base=2))))")
	}
	for text, want := range map[string]string{
		"(x)": "#", "((x))": "#", "(x)()": "function(#)", "(x())": "function(#)", "(x[])": "array(#)", "((x)[])": "array(#)", "(*x)": "pointer(#)", "*(x)": "pointer(#)", "((*x)())[1]": "pointer(function(array(# number=1)))",
	} {
		showsTop(t, "int f(int "+text+");", "var:f(function(base=6 param:x("+strings.Replace(want, "#", "base=6", 1)+")))")
		col := strings.Index(text, "x") + len("int a = (int") + 1
		misfits(t, "int a = (int"+text+")b;", col)
		misfits(t, "int a = sizeof(int"+text+");", col+len("sizeof"))
	}
	for _, text := range []string{
		"(|[1])", "*(|[])", "((|[]))", "(*)(|*)", "[](|*)", "()(|*)", "[](|(*))", "(*)(|())", "(|1)", "(|,)", "(int|;)", "(int,|)", "(void,|)", "(|else)", "[|,]", "[1|,2]", "[1|=2]", "(*|;)", "(*)|x", "()|x", "(())|*", "(|+)", "*|&", "|;", "|1", "(void|1)", "(void |int)",
	} {
		stops(t, "int f(int "+text+");")
		stops(t, "int a = (int"+text+")b;")
		stops(t, "int a = sizeof(int"+text+");")
	}
}

func TestParamsOfNothing(t *testing.T) {
	for _, params := range []string{"()", "(void)", "( void )", "(\nvoid\n)", "(/*x*/)"} {
		showsTop(t, "int f"+params+";", "var:f(function(base=6))")
		showsTop(t, "int f"+params+"{}", "definition:f(function(base=6) block)")
		showsTop(t, "int (*f)"+params+";", "var:f(pointer(function(base=6)))")
		showsTop(t, "int f(int"+params+", int x"+params+");", "var:f(function(base=6 param(function(base=6)) param:x(function(base=6))))")
	}
	for params, want := range map[string]string{
		"(void x)": "param:x(base=1)", "(void *)": "param(pointer(base=1))", "(void *x)": "param:x(pointer(base=1))", "(void, void)": "param(base=1) param(base=1)", "(void, int)": "param(base=1) param(base=6)", "(int, void)": "param(base=6) param(base=1)",
		"(void (x))": "param:x(base=1)", "(void ())": "param(function(base=1))", "(void [])": "param(array(base=1))", "(void (*)(void))": "param(pointer(function(base=1)))",
	} {
		showsTop(t, "int f"+params+";", "var:f(function(base=6 "+want+"))")
		showsTop(t, "int f"+params+"{}", "definition:f(function(base=6 "+want+") block)")
	}
	stops(t, "int f(void|;")
	stops(t, "int f(void,|)")
	stops(t, "int f(|,)")
	stops(t, "int f(|x);")
	stops(t, "int f(|(void));")
	stops(t, "int f(|*);")
	stops(t, "int f(int x|=1);")
	stops(t, "int f(int|...);")
}

func TestStmtsWithPlaces(t *testing.T) {
	body := func(text, want string) {
		t.Helper()
		shows(t, "int f(){"+text+"}", "unit@1(definition:f@5(function@6(base=6@1) block@8"+want+"))")
	}
	body("", "")
	body("int a, *b; {} ; a; (a); l: ;", "(var:a@13(base=6@9) var:b@17(pointer@16(base=6@9)) block@20 empty@23 expression@25(name:a@25) expression@28(name:a@29) label:l@33(empty@36))")
	body("if (a) b; if (a) ; else c;", "(if@9(name:a@13 expression@16(name:b@16)) if@19(name:a@23 empty@26 expression@33(name:c@33)))")
	body("while (a) ; do ; while (a); switch (a) {}", "(while@9(name:a@16 empty@19) do@21(empty@24 name:a@33) switch@37(name:a@45 block@48))")
	body("for (;;) ; for (a; b; c) {} for (int *i = 0; (i); ) ;", "(for@9(empty@14 empty@15 empty@16 empty@18) for@20(expression@25(name:a@25) expression@28(name:b@28) expression@31(name:c@31) block@34) for@37(var:i@47(pointer@46(base=6@42) number@51) expression@54(name:i@55) empty@59 empty@61))")
	body("case 1: ; default: ; goto l; break; continue; return; return (a);", "(case@9(number=1@14 empty@17) default@19(empty@28) goto:l@30 break@38 continue@45 return@55 return@63(name:a@71))")
	body("((a)+b)*c;", "(expression@9(binary.1@16(binary.4@13(name:a@11 name:b@14) name:c@17)))")
	body("for(\n ;\n;\n)\n;", "(for@9(empty@2:2 empty@3:1 empty@4:1 empty@5:1))")
	body("for(;;(a)) ;", "(for@9(empty@13 empty@14 expression@15(name:a@16) empty@20))")
}

func TestStmts(t *testing.T) {
	for text, want := range map[string]string{
		"{}": "block", "{{}}": "block(block)", "{;}": "block(empty)", ";": "empty", "a;": "expression(name:a)", "a, b;": "expression(comma(name:a name:b))", "a = b;": "expression(assignment(name:a name:b))",
		"l: ;": "label:l(empty)", "l: m: ;": "label:l(label:m(empty))", "l: {}": "label:l(block)", "l: l: a;": "label:l(label:l(expression(name:a)))", "if (a, b) ;": "if(comma(name:a name:b) empty)", "if ((a)) ;": "if(name:a empty)",
		"if (a) ; else ;": "if(name:a empty empty)", "if (a) if (b) ; else ;": "if(name:a if(name:b empty empty))", "if (a) if (b) ; else ; else ;": "if(name:a if(name:b empty empty) empty)", "if (a) {if (b) ;} else ;": "if(name:a block(if(name:b empty)) empty)",
		"if (a) while (b) if (c) ; else ;": "if(name:a while(name:b if(name:c empty empty)))", "if (a) for (;;) if (c) ; else ;": "if(name:a for(empty empty empty if(name:c empty empty)))", "if (a) switch (b) if (c) ; else ;": "if(name:a switch(name:b if(name:c empty empty)))",
		"if (a) case 1: if (c) ; else ;": "if(name:a case(number=1 if(name:c empty empty)))", "if (a) default: if (c) ; else ;": "if(name:a default(if(name:c empty empty)))", "if (a) l: if (c) ; else ;": "if(name:a label:l(if(name:c empty empty)))",
		"if (a) do if (b) ; while (c); else ;": "if(name:a do(if(name:b empty) name:c) empty)", "if (a) do if (b) ; else ; while (c); else ;": "if(name:a do(if(name:b empty empty) name:c) empty)", "if (a) ; else if (b) ; else ;": "if(name:a empty if(name:b empty empty))",
		"if (a) while (b) ; else ;": "if(name:a while(name:b empty) empty)", "if (a) if (b) ; else ; ;": "if(name:a if(name:b empty empty)) empty", "if (a) if (b) if (c) ; else ; else ;": "if(name:a if(name:b if(name:c empty empty) empty))",
		"while (a) while (b) ;": "while(name:a while(name:b empty))", "do ; while (a);": "do(empty name:a)", "do {} while (a, b);": "do(block comma(name:a name:b))", "do while (a) ; while (b);": "do(while(name:a empty) name:b)", "do do ; while (a); while (b);": "do(do(empty name:a) name:b)",
		"for (;;) ;": "for(empty empty empty empty)", "for (a;;) ;": "for(expression(name:a) empty empty empty)", "for (;a;) ;": "for(empty expression(name:a) empty empty)", "for (;;a) ;": "for(empty empty expression(name:a) empty)",
		"for (a, b; c, d; e, f) {}": "for(expression(comma(name:a name:b)) expression(comma(name:c name:d)) expression(comma(name:e name:f)) block)", "for (int i;;) ;": "for(var:i(base=6) empty empty empty)", "for (int i = 1;;) ;": "for(var:i(base=6 number=1) empty empty empty)",
		"for (int i = {1};;) ;": "for(var:i(base=6 list(number=1)) empty empty empty)", "for (struct S *i;;) ;": "for(var:i(pointer(tag.1:S)) empty empty empty)", "switch (a) {case 1: case 2: b; break; default: c;}": "switch(name:a block(case(number=1 case(number=2 expression(name:b))) break default(expression(name:c))))",
		"case a ? b : c: ;": "case(condition(name:a name:b name:c) empty)", "case a ? b ? c : d : e: ;": "case(condition(name:a condition(name:b name:c name:d) name:e) empty)", "case (a, b): ;": "case(comma(name:a name:b) empty)", "case (a = b): ;": "case(assignment(name:a name:b) empty)",
		"goto a;": "goto:a", "break;": "break", "continue;": "continue", "return;": "return", "return a;": "return(name:a)", "return a, b = c;": "return(comma(name:a assignment(name:b name:c)))", "return (a);": "return(name:a)",
		"int a;": "var:a(base=6)", "int a, b;": "var:a(base=6) var:b(base=6)", "int a; ; int b;": "var:a(base=6) empty var:b(base=6)", "int f(int x);": "var:f(function(base=6 param:x(base=6)))", "struct S s, *p = {1};": "var:s(tag.1:S) var:p(pointer(tag.1:S) list(number=1))",
		"sizeof a;": "expression(sizeofexpr(name:a))", "sizeof(int);": "expression(sizeoftype(base=6))", "(int)a;": "expression(cast(base=6 name:a))", "*a = b;": "expression(assignment(unary.5(name:a) name:b))", "++a;": "expression(pre.1(name:a))", "1;": "expression(number=1)", "\"s\";": "expression(string:s)",
		"a ? b : c;": "expression(condition(name:a name:b name:c))", "a * b;": "expression(binary.1(name:a name:b))", "a(b);": "expression(call(name:a name:b))",
	} {
		showsStmt(t, text, want)
		showsStmt(t, "x; "+text+" y;", "expression(name:x) "+want+" expression(name:y)")
		showsStmt(t, "{"+text+"}", "block("+want+")")
	}
	for _, text := range []string{
		"|)", "|]", "|,", "|:", "|=", "|else ;", "|typedef int T;", "|/a;", "a |b;", "a|}", "a +|;", "1|:;", "l:|}", "l:|int a;", "l:|struct S a;", "(l)|: ;", "if|a", "if (|) ;", "if (a|;", "if (a)|}", "if (a) ;else|}", "if (a)|int b;", "if (a) ; else|else ;",
		"if (a) ; else|int b;", "if (a) ; ;|else ;", "while|;", "while (|) ;", "while (a)|}", "while (a)|int b;", "while (a)|else ;", "do|}", "do|int a; while (b);", "do ;|}", "do ;|do", "do ; while|a", "do ; while (|)", "do ; while (a)|}", "do ; while (a)|{}", "for|;", "for (|)", "for (;|)", "for (;;|;", "for (;;)|}", "for (;;)|int a;",
		"for (a|)", "for (a, |;", "for (a; b|)", "for (a; b; c|;", "for (int i|, j;;) ;", "for (int i|)", "for (int|;", "for (|{", "for (int f() |{", "for (|typedef", "for (; |int i;)", "switch|{", "switch (|)", "switch (a)|}", "switch (a)|int b;", "case|:", "case a|;", "case a|, b:", "case a|= b:", "case 1:|}", "case 1:|int a;",
		"case|int:", "default|;", "default|1:", "default:|}", "default:|int a;", "goto|;", "goto|1;", "goto a|:", "goto a|, b;", "goto|int;", "break|a;", "break|}", "continue|1;", "return|}", "return|int;", "return a|}", "return|{", "int|;", "int a|}", "int a = |;", "int a = {|}", "int a = {1|;", "int a = {1 |2}", "int a = {|,}", "int a|b;", "int a,|;", "int a |+ b;",
		"enum E|{A};", "struct S|{int a;};", "struct S|;", "int a[|;", "int f() |{}",
	} {
		stops(t, "int f(){"+text+" }")
		stops(t, "int f(){x; {"+text+" }")
	}
}

func TestPrimariesAndPostfixes(t *testing.T) {
	for text, want := range map[string]string{
		"a": "name:a", "1": "number=1", "0": "number", "1u": "number=1:u", "4294967295": "number=4294967295:u", "'x'": "number=120:c", `'\377'`: "number=4294967295:c", `"s"`: "string:s", `""`: "string", `"a\nb"`: "string:a\nb", "(a)": "name:a", "((1))": "number=1",
		"a[b]": "index(name:a name:b)", "a[b, c]": "index(name:a comma(name:b name:c))", "a[b = c]": "index(name:a assignment(name:b name:c))", "a[b][c]": "index(index(name:a name:b) name:c)", "1[a]": "index(number=1 name:a)", `"s"[0]`: "index(string:s number)",
		"a()": "call(name:a)", "a(b)": "call(name:a name:b)", "a(b, c)": "call(name:a name:b name:c)", "a((b, c))": "call(name:a comma(name:b name:c))", "a(b = c, d)": "call(name:a assignment(name:b name:c) name:d)", "a()()": "call(call(name:a))", "a(b(c))": "call(name:a call(name:b name:c))", "(a)(b)": "call(name:a name:b)", "(*a)(b)": "call(unary.5(name:a) name:b)",
		"a.b": "member:b(name:a)", "a->b": "arrow:b(name:a)", "a.b.c": "member:c(member:b(name:a))", "a->b.c->d": "arrow:d(member:c(arrow:b(name:a)))", "a++": "post.1(name:a)", "a--": "post.2(name:a)", "a++--": "post.2(post.1(name:a))", "a.b[c](d)->e++": "post.1(arrow:e(call(index(member:b(name:a) name:c) name:d)))", "(a, b)[c]": "index(comma(name:a name:b) name:c)",
	} {
		showsExpr(t, text, want)
	}
}

func TestUnariesAndCasts(t *testing.T) {
	for text, want := range map[string]string{
		"++a": "pre.1(name:a)", "--a": "pre.2(name:a)", "+a": "unary.1(name:a)", "-a": "unary.2(name:a)", "~a": "unary.3(name:a)", "!a": "unary.4(name:a)", "*a": "unary.5(name:a)", "&a": "unary.6(name:a)", "- -a": "unary.2(unary.2(name:a))", "--- a": "pre.2(unary.2(name:a))", "- --a": "unary.2(pre.2(name:a))", "!~+a": "unary.4(unary.3(unary.1(name:a)))",
		"-a++": "unary.2(post.1(name:a))", "*a++": "unary.5(post.1(name:a))", "++*a": "pre.1(unary.5(name:a))", "++a++": "pre.1(post.1(name:a))", "*a[b]": "unary.5(index(name:a name:b))", "(*a)[b]": "index(unary.5(name:a) name:b)", "&a.b": "unary.6(member:b(name:a))", "&a->b[c]": "unary.6(index(arrow:b(name:a) name:c))", "(-a)++": "post.1(unary.2(name:a))",
		"(int)a": "cast(base=6 name:a)", "(int)-a": "cast(base=6 unary.2(name:a))", "-(int)a": "unary.2(cast(base=6 name:a))", "(int)a++": "cast(base=6 post.1(name:a))", "((int)a)++": "post.1(cast(base=6 name:a))", "(int)(char)a": "cast(base=6 cast(base=2 name:a))", "(int)(a)": "cast(base=6 name:a)", "(int)(a)(b)": "cast(base=6 call(name:a name:b))", "(a)-b": "binary.5(name:a name:b)", "(int)-b": "cast(base=6 unary.2(name:b))",
		"(int)a+b": "binary.4(cast(base=6 name:a) name:b)", "(int)a*b": "binary.1(cast(base=6 name:a) name:b)", "a*(int)b": "binary.1(name:a cast(base=6 name:b))", "(int)a[b]": "cast(base=6 index(name:a name:b))", "(void)a": "cast(base=1 name:a)", "(int *)a": "cast(pointer(base=6) name:a)", "(struct S *)&a": "cast(pointer(tag.1:S) unary.6(name:a))", "!(int)!a": "unary.4(cast(base=6 unary.4(name:a)))",
		"(int (*)(int, char *x))a": "cast(pointer(function(base=6 param(base=6) param:x(pointer(base=2)))) name:a)", "(int)sizeof a": "cast(base=6 sizeofexpr(name:a))", "(int)++a": "cast(base=6 pre.1(name:a))",
		"sizeof a": "sizeofexpr(name:a)", "sizeof(a)": "sizeofexpr(name:a)", "sizeof(int)": "sizeoftype(base=6)", "sizeof (a)[b]": "sizeofexpr(index(name:a name:b))", "sizeof(a)++": "sizeofexpr(post.1(name:a))", "sizeof a++": "sizeofexpr(post.1(name:a))", "sizeof -a": "sizeofexpr(unary.2(name:a))", "sizeof sizeof a": "sizeofexpr(sizeofexpr(name:a))", "sizeof sizeof(int)": "sizeofexpr(sizeoftype(base=6))",
		"sizeof(int)+a": "binary.4(sizeoftype(base=6) name:a)", "sizeof(int)*a": "binary.1(sizeoftype(base=6) name:a)", "sizeof(int)-a": "binary.5(sizeoftype(base=6) name:a)", "sizeof(int)&a": "binary.14(sizeoftype(base=6) name:a)", "sizeof a+b": "binary.4(sizeofexpr(name:a) name:b)", "sizeof(a)+b": "binary.4(sizeofexpr(name:a) name:b)", "sizeof(a+b)": "sizeofexpr(binary.4(name:a name:b))", "sizeof((int)a)": "sizeofexpr(cast(base=6 name:a))",
		"sizeof -(int)a": "sizeofexpr(unary.2(cast(base=6 name:a)))", "sizeof(int[3])": "sizeoftype(array(base=6 number=3))", "sizeof(struct S)": "sizeoftype(tag.1:S)", "-sizeof a": "unary.2(sizeofexpr(name:a))", "++sizeof a": "pre.1(sizeofexpr(name:a))", "sizeof ++a": "sizeofexpr(pre.1(name:a))", "sizeof &a": "sizeofexpr(unary.6(name:a))", "sizeof(a)(b)": "sizeofexpr(call(name:a name:b))", "sizeof(int (*)[2])": "sizeoftype(pointer(array(base=6 number=2)))",
		"sizeof(a, b)": "sizeofexpr(comma(name:a name:b))", "sizeof \"s\"": "sizeofexpr(string:s)", "++-a": "pre.1(unary.2(name:a))", "-(a+b)": "unary.2(binary.4(name:a name:b))",
	} {
		showsExpr(t, text, want)
	}
	for _, text := range []string{
		"++(|int)a", "--(|int)a", "sizeof(int)|a", "sizeof(int)|++", "sizeof(int)|[a]", "sizeof(int)|(a)", "sizeof(int)|.a", "sizeof(int)|{1}", "sizeof|int", "sizeof|;", "sizeof(|)", "(int)|;", "(int)|{1}", "(int)|)", "(int|a)b", "(int|;", "((int)|)a", "(|)", "(|;", "(a|;", "(a,|)", "a(b|;", "a(b,|)", "a(|,b)", "a[|]", "a[b|;", "a[b|)", "a.|1", "a.|;", "a.|int", "a->|(", "a|b", "a|1", "1|a", "1|\"s\"",
		"\"s\"|\"t\"", "a|'b'", "a|!", "a|~b", "a|sizeof b", "+|;", "-|)", "!|=", "*|]", "&|&&", "++|;", "a++|b", "a++|1", "|.a", "|->a", "|[a]", "a|{", "++sizeof(|)", "(int)|int", "-|int", "a+|int", "a(|int)", "a[|int]", "a(|void)", "(a)|b", "(int(|a))b",
	} {
		stops(t, "int x = "+text+";")
		stops(t, "int f(){return "+text+";}")
		stops(t, "int f(){y + "+text+";}")
	}
	shows(t, "int a = sizeof(int *) + sizeof (b) + sizeof sizeof b;", "unit@1(var:a@5(base=6@1 binary.4@36(binary.4@23(sizeoftype@9(pointer@20(base=6@16)) sizeofexpr@25(name:b@33)) sizeofexpr@38(sizeofexpr@45(name:b@52)))))")
	shows(t, "int a = (int)(char *)b + (c);", "unit@1(var:a@5(base=6@1 binary.4@24(cast@9(base=6@10 cast@14(pointer@20(base=2@15) name:b@22)) name:c@27)))")
	shows(t, "int a = ++b + -c - sizeof d;", "unit@1(var:a@5(base=6@1 binary.5@18(binary.4@13(pre.1@9(name:b@11) unary.2@15(name:c@16)) sizeofexpr@20(name:d@27))))")
	shows(t, "int a = b[c](d, e)().x->y++--;", "unit@1(var:a@5(base=6@1 post.2@28(post.1@26(arrow:y@23(member:x@21(call@19(call@13(index@10(name:b@9 name:c@11) name:d@14 name:e@17))))))))")
	shows(t, "int a = (((b)))[1];", "unit@1(var:a@5(base=6@1 index@16(name:b@12 number=1@17)))")
}

// levelsBy are the levels of operators that bind leftmost first, from the loosest on.
var levelsBy = [][]string{{"||"}, {"&&"}, {"|"}, {"^"}, {"&"}, {"==", "!="}, {"<", ">", "<=", ">="}, {"<<", ">>"}, {"+", "-"}, {"*", "/", "%"}}

func binaryName(s string) string {
	for m, other := range binariesBy {
		if other == s {
			return "binary." + strconv.Itoa(m)
		}
	}
	return ""
}

func TestEachPairOfBinaries(t *testing.T) {
	for i, loose := range levelsBy {
		for j, tight := range levelsBy {
			for _, a := range loose {
				for _, b := range tight {
					left := binaryName(b) + "(" + binaryName(a) + "(name:x name:y) name:z)"
					if i < j {
						left = binaryName(a) + "(name:x " + binaryName(b) + "(name:y name:z))"
					}
					showsExpr(t, "x "+a+" y "+b+" z", left)
					showsExpr(t, "(x "+a+" y) "+b+" z", binaryName(b)+"("+binaryName(a)+"(name:x name:y) name:z)")
					showsExpr(t, "x "+a+" (y "+b+" z)", binaryName(a)+"(name:x "+binaryName(b)+"(name:y name:z))")
				}
			}
		}
	}
}

func TestConditionsAssignmentsAndCommas(t *testing.T) {
	for text, want := range map[string]string{
		"a ? b : c": "condition(name:a name:b name:c)", "a ? b : c ? d : e": "condition(name:a name:b condition(name:c name:d name:e))", "a ? b ? c : d : e": "condition(name:a condition(name:b name:c name:d) name:e)", "(a ? b : c) ? d : e": "condition(condition(name:a name:b name:c) name:d name:e)",
		"a ? b, c : d": "condition(name:a comma(name:b name:c) name:d)", "a ? b = c : d": "condition(name:a assignment(name:b name:c) name:d)", "a ? b : c = d": "assignment(condition(name:a name:b name:c) name:d)", "a ? b : (c = d)": "condition(name:a name:b assignment(name:c name:d))", "a ? b : c, d": "comma(condition(name:a name:b name:c) name:d)",
		"a || b ? c : d": "condition(binary.18(name:a name:b) name:c name:d)", "a ? b : c || d": "condition(name:a name:b binary.18(name:c name:d))", "a = b ? c : d": "assignment(name:a condition(name:b name:c name:d))", "a = b = c": "assignment(name:a assignment(name:b name:c))", "(a = b) = c": "assignment(assignment(name:a name:b) name:c)", "a = b += c": "assignment(name:a assignment.4(name:b name:c))",
		"a + b = c": "assignment(binary.4(name:a name:b) name:c)", "a = b + c": "assignment(name:a binary.4(name:b name:c))", "-a = b": "assignment(unary.2(name:a) name:b)", "1 = 2": "assignment(number=1 number=2)", "(int)a = b": "assignment(cast(base=6 name:a) name:b)", "a || b = c || d": "assignment(binary.18(name:a name:b) binary.18(name:c name:d))",
		"a, b": "comma(name:a name:b)", "a, b, c": "comma(comma(name:a name:b) name:c)", "a, (b, c)": "comma(name:a comma(name:b name:c))", "a = b, c = d": "comma(assignment(name:a name:b) assignment(name:c name:d))", "a = (b, c)": "assignment(name:a comma(name:b name:c))", "a ? b : c ? d : e = f": "assignment(condition(name:a name:b condition(name:c name:d name:e)) name:f)",
		"a = b ? c : d = e": "assignment(name:a assignment(condition(name:b name:c name:d) name:e))",
	} {
		showsExpr(t, text, want)
	}
	for m, s := range map[int]string{0: "=", 1: "*=", 2: "/=", 3: "%=", 4: "+=", 5: "-=", 6: "<<=", 7: ">>=", 14: "&=", 15: "^=", 16: "|="} {
		want := "assignment." + strconv.Itoa(m)
		if m == 0 {
			want = "assignment"
		}
		showsExpr(t, "a "+s+" b", want+"(name:a name:b)")
		showsExpr(t, "a "+s+" b = c", want+"(name:a assignment(name:b name:c))")
		showsExpr(t, "a = b "+s+" c", "assignment(name:a "+want+"(name:b name:c))")
		showsExpr(t, "a "+s+" b, c", "comma("+want+"(name:a name:b) name:c)")
		shows(t, "int x=a "+s+" b;", "unit@1(var:x@5(base=6@1 "+want+"@9(name:a@7 name:b@"+strconv.Itoa(10+len(s))+")))")
		misfits(t, "int x[a "+s+" b];", 9)
		misfits(t, "enum E {A = b "+s+" c};", 15)
		misfits(t, "int f(){case a "+s+" b: ;}", 16)
		misfits(t, "int x = a "+s+";", 11+len(s))
	}
	shows(t, "int a = b + c * d - e;", "unit@1(var:a@5(base=6@1 binary.5@19(binary.4@11(name:b@9 binary.1@15(name:c@13 name:d@17)) name:e@21)))")
	shows(t, "int a = b ? c : d ? e : f;", "unit@1(var:a@5(base=6@1 condition@11(name:b@9 name:c@13 condition@19(name:d@17 name:e@21 name:f@25))))")
	shows(t, "int a = (b, c, d);", "unit@1(var:a@5(base=6@1 comma@14(comma@11(name:b@10 name:c@13) name:d@16)))")
	shows(t, "int a = b = c += d;", "unit@1(var:a@5(base=6@1 assignment@11(name:b@9 assignment.4@15(name:c@13 name:d@18))))")
	for _, text := range []string{"a ? b|;", "a ?|: b", "a ? b :|;", "a ? b, |: c", "a ? b : c|: d", "a =|;", "a = |=b", "a + * |;", "a ? b : |? c", "a, |;", "a,|)"} {
		stops(t, "int x = ("+text+");")
	}
	misfits(t, "int x = a || ;", 14)
	misfits(t, "int x = a, ;", 12)
	misfits(t, "int x = a, 1;", 12)
}

func TestInits(t *testing.T) {
	for text, want := range map[string]string{
		"1": "number=1", "a = b": "assignment(name:a name:b)", "{1}": "list(number=1)", "{1,}": "list(number=1)", "{1, 2}": "list(number=1 number=2)", "{1, 2,}": "list(number=1 number=2)", "{{1}}": "list(list(number=1))", "{{1,}, {2, 3},}": "list(list(number=1) list(number=2 number=3))", "{a = b, c}": "list(assignment(name:a name:b) name:c)",
		"{(a, b)}": "list(comma(name:a name:b))", "(a, b)": "comma(name:a name:b)", "\"s\"": "string:s", "{\"s\", {'c'}}": "list(string:s list(number=99:c))", "a ? b : c": "condition(name:a name:b name:c)", "(int)a": "cast(base=6 name:a)",
	} {
		showsTop(t, "int x = "+text+";", "var:x(base=6 "+want+")")
		showsTop(t, "int y, x[] = "+text+", z = 1;", "var:y(base=6) var:x(array(base=6) "+want+") var:z(base=6 number=1)")
		showsStmt(t, "int x = "+text+";", "var:x(base=6 "+want+")")
		showsStmt(t, "for (int x = "+text+";;) ;", "for(var:x(base=6 "+want+") empty empty empty)")
	}
	for _, text := range []string{"|;", "|}", "{|}", "{|,}", "{1|;", "{1 |2}", "{1,|,}", "{1,|;", "{{|}}", "{{1}|;", "{1}|{2}", "{1}|+ 2", "{1} |1", "1 |2", "(|{1})", "1 + |{1}", "{1 = |{2}}", "|int", "1|}", "{1|)"} {
		stops(t, "int x = "+text+";")
		stops(t, "int f(){int x = "+text+";}")
	}
}

func TestStructuresAndEnumerations(t *testing.T) {
	for text, want := range map[string]string{
		"struct S {int a;};": "structure.1:S(field:a(base=6))", "union S {int a;};": "structure.2:S(field:a(base=6))", "struct S {int a; int b;};": "structure.1:S(field:a(base=6) field:b(base=6))", "struct S {int a, b; char c;};": "structure.1:S(field:a(base=6) field:b(base=6) field:c(base=2))",
		"struct S {struct S *a; struct T b, *c[2];};": "structure.1:S(field:a(pointer(tag.1:S)) field:b(tag.1:T) field:c(array(pointer(tag.1:T) number=2)))", "struct S {int f(void), (*g)(int);};": "structure.1:S(field:f(function(base=6)) field:g(pointer(function(base=6 param(base=6)))))",
		"enum E {A};": "enumeration:E(enumer:A)", "enum E {A,};": "enumeration:E(enumer:A)", "enum E {A, B};": "enumeration:E(enumer:A enumer:B)", "enum E {A = 1, B, C = A + B,};": "enumeration:E(enumer:A(number=1) enumer:B enumer:C(binary.4(name:A name:B)))", "enum E {A = b ? c : d, E};": "enumeration:E(enumer:A(condition(name:b name:c name:d)) enumer:E)",
		"enum E {A = (b, c), B = (d = e)};": "enumeration:E(enumer:A(comma(name:b name:c)) enumer:B(assignment(name:d name:e)))", "struct S a; struct S {int a;}; struct S b;": "var:a(tag.1:S) structure.1:S(field:a(base=6)) var:b(tag.1:S)",
	} {
		showsTop(t, text, want)
	}
	for _, text := range []string{
		"struct|{int a;};", "struct S|;", "struct S {|};", "struct S {|a;};", "struct S {int|;};", "struct S {int a|};", "struct S {int a|= 1;};", "struct S {int a|: 3;};", "struct S {int a,|;};", "struct S {int *|;};", "struct S {int a;|;};", "struct S {int a;}|a;", "struct S {int a;}|", "struct S {int a;|", "struct S {struct T|{int b;} a;};", "struct S {|typedef int T;};",
		"struct S {enum|;", "struct S {int |[1];};", "struct S {int f()|{}", "struct|int {", "union|struct", "union U {|", "enum|{A};", "enum E|;", "enum E {|};", "enum E {|,};", "enum E {A|;", "enum E {A|B};", "enum E {A,|,};", "enum E {A =|};", "enum E {A = 1|;", "enum E {A = b|= c};", "enum E {A}|", "enum E {A}|a;", "enum E {A,|1};", "enum E {|int};", "enum E {A,|;", "struct E {|A};", "enum E {|int a;};",
	} {
		stops(t, text)
	}
}

func TestTopsThatAreNone(t *testing.T) {
	for _, text := range []string{
		"|;", "int a;|;", "int f(){}|;", "|a;", "|a b;", "|1;", "|\"s\";", "|(a);", "|*a;", "|{}", "|}", "int f(){}|}", "|if (a) ;", "|return;", "|sizeof", "|while", "|= 1;", "int|", "int|;", "int|1;", "int|= 1;", "int|{}", "int|[1];", "int *|;", "int *|[1];", "int (|);", "int (|[1]);", "int (a|;", "int (a|,b);", "int (*|)(void);", "int (|int a);", "int a|", "int a|b;", "int a|1;", "int a|}", "int a|{}", "int a|*;", "int a|+ 1;",
		"int a,|;", "int a,|int b;", "int a,|1;", "int a =|", "int a = 1|", "int a = 1|b;", "int a = 1,|;", "int a[|", "int a[1|;", "int a[1|,2];", "int a|]", "int f(|", "int f()|", "int f()|1", "int f()|int x; {}", "int f() {|", "int f() = {|};", "int f(){} |, g(){}", "int f(), g()|{}", "int f() = 1|{}", "typedef|;", "typedef|a;", "typedef|a b;", "typedef int|;", "typedef int a|= 1;", "typedef int a|, b;", "typedef int a|", "typedef|typedef int a;",
		"typedef struct S|{int a;} b;", "typedef enum E|{A} b;", "typedef int f()|{}", "typedef int *|;", "typedef int (|);", "int |typedef", "int a;|else", "int f(int x|{}", "int f(int x)|x;",
	} {
		stops(t, text)
		stops(t, "int x, y; "+text)
		stops(t, "int g(void) { return 1; } "+text)
	}
}

func TestFunctionDefinitions(t *testing.T) {
	for text, want := range map[string]string{
		"int f(){}": "definition:f(function(base=6) block)", "int f(void){return 1;}": "definition:f(function(base=6) block(return(number=1)))", "void *f(int a, char b){}": "definition:f(function(pointer(base=1) param:a(base=6) param:b(base=2)) block)", "int f(int){}": "definition:f(function(base=6 param(base=6)) block)",
		"int f(){} int g(){}": "definition:f(function(base=6) block) definition:g(function(base=6) block)", "int f(); int f(){} int f();": "var:f(function(base=6)) definition:f(function(base=6) block) var:f(function(base=6))", "struct S f(struct S a){}": "definition:f(function(tag.1:S param:a(tag.1:S)) block)",
		"int ((f))(int a){{}}": "definition:f(function(base=6 param:a(base=6)) block(block))", "int (f(void)){}": "definition:f(function(base=6) block)", "int (*f(void))[2]{}": "definition:f(function(pointer(array(base=6 number=2))) block)", "int f()[2]{}": "definition:f(function(array(base=6 number=2)) block)", "int f()(){}": "definition:f(function(function(base=6)) block)",
	} {
		showsTop(t, text, want)
	}
	for _, text := range []string{"int (*f)(void)|{}", "int *(*f)()|{}", "int f[2]()|{}", "int f|{}", "int *f|{}", "int (f)|{}", "int (*f())|x{}", "int (*(f)())[2]{} |;", "typedef int F(void); F f|{}", "typedef int F(void); F *f; F g|{}", "int f(), g()|{}", "int g, f()|{}", "int f(){} |= 1;", "int f() = g |{}"} {
		stops(t, text)
	}
}

func TestLongLists(t *testing.T) {
	for _, c := range []struct{ begin, one, between, end, wantBegin, want, wantEnd string }{
		{"", "int a;", "", "", "", "var:a(base=6)", ""},
		{"int ", "a", ",", ";", "", "var:a(base=6)", ""},
		{"struct S {", "int a;", "", "};", "structure.1:S(", "field:a(base=6)", ")"},
		{"union U {int ", "a", ",", ";};", "structure.2:U(", "field:a(base=6)", ")"},
		{"enum E {", "A = 1", ",", "};", "enumeration:E(", "enumer:A(number=1)", ")"},
		{"int f(", "int", ",", ");", "var:f(function(base=6 ", "param(base=6)", "))"},
		{"int a = {", "1", ",", "};", "var:a(base=6 list(", "number=1", "))"},
		{"int a = f(", "1", ",", ");", "var:a(base=6 call(name:f ", "number=1", "))"},
		{"int f(){", "a;", "", "}", "definition:f(function(base=6) block(", "expression(name:a)", "))"},
		{"int f(){int ", "a", ",", ";}", "definition:f(function(base=6) block(", "var:a(base=6)", "))"},
	} {
		for _, count := range []int{2, 3, 4, 5, 100, 600} {
			text := strings.Repeat(c.one+c.between, count-1) + c.one
			want := strings.Repeat(c.want+" ", count-1) + c.want
			showsTop(t, c.begin+text+c.end, c.wantBegin+want+c.wantEnd)
		}
	}
}

func TestDeepBrackets(t *testing.T) {
	for _, deep := range []int{1, 10, 900, 2900} {
		open, shut := strings.Repeat("(", deep), strings.Repeat(")", deep)
		showsTop(t, "int a = "+open+"1"+shut+";", "var:a(base=6 number=1)")
		showsTop(t, "int "+open+"a"+shut+";", "var:a(base=6)")
		showsTop(t, "int f(int "+open+"x"+shut+");", "var:f(function(base=6 param:x(base=6)))")
		showsTop(t, "int f(int "+open+"()"+shut+");", "var:f(function(base=6 param(function(base=6))))")
		showsTop(t, "int a = sizeof(int "+open+"*"+shut+");", "var:a(base=6 sizeoftype(pointer(base=6)))")
		misfits(t, "int a = "+open+"1"+shut[1:]+";", len("int a = ")+2*deep+1)
		misfits(t, "int a = "+open, len("int a = ")+deep+1)
		misfits(t, "int a = "+open+"1"+shut+");", len("int a = ")+2*deep+2)
	}
}

func TestAnswersOfParseShareNoMemory(t *testing.T) {
	text := []byte("typedef int T; struct S {T a, *b;}; T f(int a, T (*g)(void)) {if (a) return g(a, 1)[2]; else for (;;) ; }")
	a, code, _, _ := impl.Parse(text)
	b, _, _, _ := impl.Parse(text)
	if code != 0 || touch(a.Nodes, b.Nodes) || !equalTrees(a, b) {
		t.Errorf("two answers share memory, or are not the same: %d", code)
	}
	lists := [][]int{}
	for _, tree := range []impl.Tree{a, b} {
		for _, n := range tree.Nodes {
			for _, other := range lists {
				if touch(other, n.Kids) {
					t.Errorf("two lists of kids share memory")
				}
			}
			lists = append(lists, n.Kids)
		}
	}
	for i := range a.Nodes {
		clear(a.Nodes[i].Kids)
		a.Nodes[i] = impl.Node{}
	}
	if c, _, _, _ := impl.Parse(text); !equalTrees(b, c) {
		t.Errorf("an answer hangs on an older one")
	}
}
