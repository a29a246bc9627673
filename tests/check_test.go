package tests

import (
	"bytes"
	"strings"
	"testing"

	"loop.example/s01681/impl"
)

const (
	emptyMain     = "int main(void){return 0;}"
	emptyMainCore = "(function main w 0 (block (return (num 0))))\n"
)

// check asks Check, with room behind the bytes, and sees that these are as they were, that the core stands just beside
// 0, and that the second reading says the same. The functions of a right source are given registers and written, and each
// source is formatted.
func check(t *testing.T, text string) (string, int, int, int) {
	t.Helper()
	given := roomy([]byte(text))
	core, code, line, col := impl.Check(given)
	if string(given) != text || !bytes.Equal(given[:cap(given)], roomy([]byte(text))[:cap(given)]) {
		t.Errorf("%.300q: Check wrote into the source", text)
	}
	if (code == 0) != (len(core) > 0) {
		t.Errorf("%.300q: code %d beside a core of %d bytes", text, code, len(core))
	}
	by, codeBy, lineBy, colBy := checkBy(text)
	if string(core) != by || code != codeBy || line != lineBy || col != colBy {
		shown := text[max(0, len(text)-600):]
		t.Errorf("..%q: %d, %d, %d,\n%s, by the second reading %d, %d, %d,\n%s", shown, code, line, col, core, codeBy, lineBy, colBy, by)
	}
	if code == 0 {
		ir, _, _, _ := impl.Lower([]byte(text))
		allocOnce(t, ir)
		emitOnce(t, ir)
	}
	formOnce(t, text)
	return string(core), code, line, col
}

// unmarked takes the first @ out of a source, and gives its place; without one the place is nothing.
func unmarked(text string) (string, int, int) {
	front, behind, ok := strings.Cut(text, "@")
	if !ok {
		return text, 0, 0
	}
	return front + behind, strings.Count(front, "\n") + 1, len(front) - strings.LastIndex(front, "\n")
}

// says sees that a source has a code, at the place that an @ in it marks.
func says(t *testing.T, code int, marked string) {
	t.Helper()
	text, line, col := unmarked(marked)
	if _, gotCode, gotLine, gotCol := check(t, text); gotCode != code || gotLine != line || gotCol != col {
		shown := marked[max(0, len(marked)-300):]
		t.Errorf("..%q: %d, %d, %d, not %d, %d, %d", shown, gotCode, gotLine, gotCol, code, line, col)
	}
}

// topsSay does the same for sources in front of a main.
func topsSay(t *testing.T, code int, marked ...string) {
	t.Helper()
	for _, text := range marked {
		says(t, code, text+emptyMain)
	}
}

// aBody is a function for the bodies of bodiesSay, with something of each type around them.
const aBody = `struct S { int a; char b; struct S *n; }; struct P { int x; }; union U { int a; char b; };
enum E { K = 3, Z = 0 }; typedef int A3[3];
void v(void) {} int f(int x) { return x; } int g(int x) { return x; } char h(void) { return 1; }
int gi; char gc; unsigned gu; int ga[5]; int *gp; struct S gs; struct S gt[2];
`

const aMain = `int main(void) { int i, *p, a[3], **pp; unsigned u; char c, *cp; unsigned char uc; short sh; unsigned short us;
struct S s, s2, *sp; struct P o; union U un; struct Q *q, *q2; void *w, *w2; int (*fp)(int), (*fp2)(void); int (*ap)[3];
`

func bodiesSay(t *testing.T, code int, marked ...string) {
	t.Helper()
	for _, text := range marked {
		says(t, code, aBody+aMain+text+"\nreturn 0; }")
	}
}

// means sees that a source is right and has a core.
func means(t *testing.T, text string, core string) {
	t.Helper()
	got, code, line, col := check(t, text)
	if code != 0 || got != core {
		t.Errorf("%.500q: %d, %d, %d,\n%s, not\n%s", text, code, line, col, got, core)
	}
}

// exprsMean does so for exprs, each a stmt of a main of its own that has its locals ahead of it, by the core within do.
func exprsMean(t *testing.T, locals string, cores ...string) {
	t.Helper()
	for i := 0; i < len(cores); i += 2 {
		got, code, line, col := check(t, aBody+"int main(void){"+locals+cores[i]+";}")
		_, got, _ = strings.Cut(got, "(function main ")
		// The locals' own blocks stand ahead.
		at := strings.LastIndex(got, "(fresh ")
		behind := strings.Index(got[max(at, 0):], ") (do ") + max(at, 0)
		if at < 0 {
			behind = strings.Index(got, "(do ") - 2
		}
		if code != 0 || behind < 0 {
			t.Errorf("%q: %d, %d, %d, %s", cores[i], code, line, col, got)
			continue
		}
		if got = strings.TrimSuffix(got[behind+2:], "))\n"); got != "(do "+cores[i+1]+")" {
			t.Errorf("%q: %s, not %s", cores[i], got, cores[i+1])
		}
	}
}

func TestCoresOfValues(t *testing.T) {
	exprsMean(t, "int i,*p,a[3];unsigned u;char c,*cp;unsigned char uc;short sh;unsigned short us;struct S s,s2,*sp;void*w;int(*fp)(int);",
		"0", "(num 0)", "4294967295", "(num 4294967295)", "'a'", "(num 97)", "'\\377'", "(num 4294967295)", "K", "(num 3)",
		"\"ab\"", "(global $0)", "i", "(load w (local 0))", "p", "(load p (local 1))", "a", "(local 2)", "u", "(load w (local 3))",
		"c", "(load i8 (local 4))", "uc", "(load u8 (local 6))", "sh", "(load i16 (local 7))", "us", "(load u16 (local 8))", "s", "(local 9)",
		"f", "(func f)", "fp", "(load p (local 13))", "gi", "(load w (global gi))", "ga", "(global ga)", "gs", "(global gs)",
		"a[i]", "(load w (add 4 (local 2) (load w (local 0))))", "cp[c]", "(load i8 (add 1 (load p (local 5)) (load i8 (local 4))))",
		"sp[1]", "(add 12 (load p (local 11)) (num 1))", "\"ab\"[1]", "(load i8 (add 1 (global $0) (num 1)))",
		"f(i)", "(call f (load w (local 0)))", "v()", "(call v)", "h()", "(call h)", "fp(1)", "(callp w(w) (load p (local 13)) (num 1))",
		"(*fp)(1)", "(callp w(w) (load p (local 13)) (num 1))", "(&f)(1)", "(callp w(w) (func f) (num 1))", "(*f)(1)", "(callp w(w) (func f) (num 1))",
		"(i ? f : g)(1)", "(callp w(w) (if (load w (local 0)) (func f) (func g)) (num 1))", "(&v)()", "(callp void() (func v))", "(*h)()", "(callp i8() (func h))",
		"putchar(i)", "(call putchar (load w (local 0)))", "getchar()", "(call getchar)", "exit(0)", "(call exit (num 0))",
		"f(c)", "(call f (load i8 (local 4)))",
		"s.a", "(load w (local 9))", "s.b", "(load i8 (add 1 (local 9) (num 4)))", "s.n", "(load p (add 1 (local 9) (num 8)))",
		"sp->a", "(load w (load p (local 11)))", "sp->b", "(load i8 (add 1 (load p (local 11)) (num 4)))", "s.n->n->a", "(load w (load p (add 1 (load p (add 1 (local 9) (num 8))) (num 8))))",
		"gt->n", "(load p (add 1 (global gt) (num 8)))", "gt[1].b", "(load i8 (add 1 (add 12 (global gt) (num 1)) (num 4)))", "(&s)->b", "(load i8 (add 1 (local 9) (num 4)))", "(*sp).b", "(load i8 (add 1 (load p (local 11)) (num 4)))",
		"i++", "(update w old + (local 0) (num 1))", "i--", "(update w old - (local 0) (num 1))", "++i", "(update w new + (local 0) (num 1))", "--i", "(update w new - (local 0) (num 1))",
		"c++", "(update i8 old + (local 4) (num 1))", "--us", "(update u16 new - (local 8) (num 1))", "p++", "(slide old + 4 (local 1) (num 1))", "--cp", "(slide new - 1 (local 5) (num 1))", "sp--", "(slide old - 12 (local 11) (num 1))",
		"a[1]++", "(update w old + (add 4 (local 2) (num 1)) (num 1))",
		"+i", "(load w (local 0))", "-c", "(bin - (num 0) (load i8 (local 4)))", "~u", "(bin ^ (load w (local 3)) (num 4294967295))",
		"!i", "(bin == (load w (local 0)) (num 0))", "!p", "(pcmp == (load p (local 1)) (null))", "!a", "(pcmp == (local 2) (null))", "!f", "(pcmp == (func f) (null))", "!!p", "(bin == (pcmp == (load p (local 1)) (null)) (num 0))",
		"*p", "(load w (load p (local 1)))", "*a", "(load w (local 2))", "*f", "(func f)", "**f", "(func f)", "*sp", "(load p (local 11))", "*\"ab\"", "(load i8 (global $0))",
		"&i", "(local 0)", "&a", "(local 2)", "&f", "(func f)", "&*p", "(load p (local 1))", "*&i", "(load w (local 0))", "&a[1]", "(add 4 (local 2) (num 1))", "&s.b", "(add 1 (local 9) (num 4))", "&sp->a", "(load p (local 11))", "&\"ab\"", "(global $0)",
		"sizeof i", "(num 4)", "sizeof a", "(num 12)", "sizeof(struct S)", "(num 12)", "sizeof c", "(num 1)", "sizeof +c", "(num 4)", "sizeof \"abc\"", "(num 4)", "sizeof(i++)", "(num 4)", "sizeof(int[3])", "(num 12)", "sizeof &a", "(num 4)", "sizeof *&a", "(num 12)", "sizeof(c=1)", "(num 1)", "sizeof c++", "(num 1)", "sizeof(c+=1)", "(num 1)", "sizeof 'a'", "(num 4)", "sizeof h()", "(num 1)", "sizeof(A3)", "(num 12)", "sizeof(enum E)", "(num 4)",
		"(void)i", "(seq (load w (local 0)) (num 0))", "(void)s", "(seq (local 9) (num 0))", "(void)v()", "(seq (call v) (num 0))", "(void)a", "(seq (local 2) (num 0))", "(void)f", "(seq (func f) (num 0))", "(void)(void)0", "(seq (seq (num 0) (num 0)) (num 0))",
		"(char)i", "(conv i8 (load w (local 0)))", "(unsigned char)c", "(conv u8 (load i8 (local 4)))", "(short)c", "(conv i16 (load i8 (local 4)))", "(unsigned short)sh", "(conv u16 (load i16 (local 7)))", "(int)c", "(load i8 (local 4))", "(unsigned)i", "(load w (local 0))", "(char)c", "(load i8 (local 4))", "(char)'a'", "(conv i8 (num 97))", "(enum E)u", "(load w (local 3))",
		"(char*)p", "(load p (local 1))", "(int*)0", "(null)", "(void*)p", "(load p (local 1))", "(int*)w", "(load p (local 12))", "(int(*)(int))f", "(func f)", "(int(*)(int))0", "(null)", "(struct Q*)p", "(load p (local 1))",
	)
}

func TestCoresOfOperators(t *testing.T) {
	exprsMean(t, "int i,*p,a[3];unsigned u;char c,*cp;struct S s,s2,*sp;void*w;",
		"i*c", "(bin * (load w (local 0)) (load i8 (local 4)))", "i/c", "(bin / (load w (local 0)) (load i8 (local 4)))", "i%u", "(bin u% (load w (local 0)) (load w (local 3)))", "u/i", "(bin u/ (load w (local 3)) (load w (local 0)))", "u*i", "(bin * (load w (local 3)) (load w (local 0)))",
		"i+1", "(bin + (load w (local 0)) (num 1))", "i-u", "(bin - (load w (local 0)) (load w (local 3)))", "i<<u", "(bin << (load w (local 0)) (load w (local 3)))", "i>>u", "(bin >> (load w (local 0)) (load w (local 3)))", "u>>i", "(bin u>> (load w (local 3)) (load w (local 0)))", "c>>1u", "(bin >> (load i8 (local 4)) (num 1))", "u<<1", "(bin << (load w (local 3)) (num 1))",
		"i<c", "(bin < (load w (local 0)) (load i8 (local 4)))", "i>u", "(bin u> (load w (local 0)) (load w (local 3)))", "u<=1", "(bin u<= (load w (local 3)) (num 1))", "c>=c", "(bin >= (load i8 (local 4)) (load i8 (local 4)))", "i<=1", "(bin <= (load w (local 0)) (num 1))", "u>=u", "(bin u>= (load w (local 3)) (load w (local 3)))", "u<c", "(bin u< (load w (local 3)) (load i8 (local 4)))", "i>0", "(bin > (load w (local 0)) (num 0))",
		"i==u", "(bin == (load w (local 0)) (load w (local 3)))", "u!=c", "(bin != (load w (local 3)) (load i8 (local 4)))", "i&u", "(bin & (load w (local 0)) (load w (local 3)))", "i^1", "(bin ^ (load w (local 0)) (num 1))", "u|c", "(bin | (load w (local 3)) (load i8 (local 4)))",
		"i&&p", "(and (load w (local 0)) (pcmp != (load p (local 1)) (null)))", "a||c", "(or (pcmp != (local 2) (null)) (load i8 (local 4)))", "0&&f", "(and (num 0) (pcmp != (func f) (null)))",
		"p+i", "(add 4 (load p (local 1)) (load w (local 0)))", "i+p", "(plus 4 (load w (local 0)) (load p (local 1)))", "p-c", "(sub 4 (load p (local 1)) (load i8 (local 4)))", "p-a", "(dist 4 (load p (local 1)) (local 2))", "cp-cp", "(dist 1 (load p (local 5)) (load p (local 5)))", "a+1", "(add 4 (local 2) (num 1))", "1+\"ab\"", "(plus 1 (num 1) (global $0))", "sp-1u", "(sub 12 (load p (local 8)) (num 1))", "&a+1", "(add 12 (local 2) (num 1))", "sp-&s", "(dist 12 (load p (local 8)) (local 6))",
		"p<a", "(pcmp < (load p (local 1)) (local 2))", "p>p", "(pcmp > (load p (local 1)) (load p (local 1)))", "p<=p", "(pcmp <= (load p (local 1)) (load p (local 1)))", "w>=w", "(pcmp >= (load p (local 9)) (load p (local 9)))", "p==w", "(pcmp == (load p (local 1)) (load p (local 9)))", "p!=0", "(pcmp != (load p (local 1)) (null))", "0==p", "(pcmp == (null) (load p (local 1)))", "f==g", "(pcmp == (func f) (func g))", "p!=0u", "(pcmp != (load p (local 1)) (null))", "p=='\\0'", "(pcmp == (load p (local 1)) (null))", "p==(0)", "(pcmp == (load p (local 1)) (null))",
		"i?c:u", "(if (load w (local 0)) (load i8 (local 4)) (load w (local 3)))", "p?1:2", "(if (pcmp != (load p (local 1)) (null)) (num 1) (num 2))", "i?p:0", "(if (load w (local 0)) (load p (local 1)) (null))", "i?0:p", "(if (load w (local 0)) (null) (load p (local 1)))", "i?p:w", "(if (load w (local 0)) (load p (local 1)) (load p (local 9)))", "i?a:p", "(if (load w (local 0)) (local 2) (load p (local 1)))", "i?v():v()", "(if (load w (local 0)) (call v) (call v))", "i?(void)0:(s=s)", "(if (load w (local 0)) (seq (num 0) (num 0)) (copy 12 (local 6) (local 6)))", "i?f:0", "(if (load w (local 0)) (func f) (null))", "i?f:g", "(if (load w (local 0)) (func f) (func g))", "i?0:0", "(if (load w (local 0)) (num 0) (num 0))",
		"i=c", "(store w (local 0) (load i8 (local 4)))", "c=i", "(store i8 (local 4) (conv i8 (load w (local 0))))", "c=c", "(store i8 (local 4) (load i8 (local 4)))", "i=u", "(store w (local 0) (load w (local 3)))", "p=a", "(store p (local 1) (local 2))", "p=0", "(store p (local 1) (null))", "w=p", "(store p (local 9) (load p (local 1)))", "p=w", "(store p (local 1) (load p (local 9)))", "*p=1", "(store w (load p (local 1)) (num 1))", "a[0]=1", "(store w (add 4 (local 2) (num 0)) (num 1))", "s.b=1", "(store i8 (add 1 (local 6) (num 4)) (conv i8 (num 1)))", "i=c=1", "(store w (local 0) (store i8 (local 4) (conv i8 (num 1))))", "c=i=1", "(store i8 (local 4) (conv i8 (store w (local 0) (num 1))))", "c=(c=1)", "(store i8 (local 4) (store i8 (local 4) (conv i8 (num 1))))", "c=c++", "(store i8 (local 4) (update i8 old + (local 4) (num 1)))", "c=c+=1", "(store i8 (local 4) (update i8 new + (local 4) (num 1)))", "c=+c", "(store i8 (local 4) (conv i8 (load i8 (local 4))))",
		"s=s2", "(copy 12 (local 6) (local 7))", "*sp=s", "(copy 12 (load p (local 8)) (local 6))", "gs=gt[1]", "(copy 12 (global gs) (add 12 (global gt) (num 1)))", "s=*s.n", "(copy 12 (local 6) (load p (add 1 (local 6) (num 8))))",
		"i*=2", "(update w new * (local 0) (num 2))", "i/=u", "(update w new u/ (local 0) (load w (local 3)))", "c%=c", "(update i8 new % (local 4) (load i8 (local 4)))", "c+=u", "(update i8 new + (local 4) (load w (local 3)))", "i-=1", "(update w new - (local 0) (num 1))", "i<<=u", "(update w new << (local 0) (load w (local 3)))", "i>>=u", "(update w new >> (local 0) (load w (local 3)))", "u>>=1", "(update w new u>> (local 3) (num 1))", "c>>=u", "(update i8 new >> (local 4) (load w (local 3)))", "i&=u", "(update w new & (local 0) (load w (local 3)))", "u^=1", "(update w new ^ (local 3) (num 1))", "c|=i", "(update i8 new | (local 4) (load w (local 0)))", "u%=i", "(update w new u% (local 3) (load w (local 0)))",
		"p+=i", "(slide new + 4 (local 1) (load w (local 0)))", "cp-=u", "(slide new - 1 (local 5) (load w (local 3)))", "s.n+=1", "(slide new + 12 (add 1 (local 6) (num 8)) (num 1))",
		"i,p", "(seq (load w (local 0)) (load p (local 1)))", "s,i", "(seq (local 6) (load w (local 0)))", "v(),a", "(seq (call v) (local 2))", "1,2,3", "(seq (seq (num 1) (num 2)) (num 3))", "(i,c)+1", "(bin + (seq (load w (local 0)) (load i8 (local 4))) (num 1))",
		"(i=1)+(p=0,1)", "(bin + (store w (local 0) (num 1)) (seq (store p (local 1) (null)) (num 1)))",
	)
}

func TestCoresOfStatements(t *testing.T) {
	body := func(text string, core string) {
		t.Helper()
		means(t, "int main(void){"+text+"}", "(function main w 0 (block "+core+"))\n")
	}
	body(";", "(block)")
	body("{}", "(block)")
	body("{;{1;}}2;", "(block (block) (block (do (num 1)))) (do (num 2))")
	body("if(1)2;", "(when (num 1) (do (num 2)))")
	body("if(1)2;else 3;", "(when (num 1) (do (num 2)) (do (num 3)))")
	body("if(1)if(2)3;else 4;", "(when (num 1) (when (num 2) (do (num 3)) (do (num 4))))")
	body("if(main)2;", "(when (pcmp != (func main) (null)) (do (num 2)))")
	body("while(main)2;", "(while (pcmp != (func main) (null)) (do (num 2)))")
	body("do 1;while(2);", "(repeat (do (num 1)) (num 2))")
	body("for(1;2;3)4;", "(for (do (num 1)) (num 2) (do (num 3)) (do (num 4)))")
	body("for(;;);", "(for (block) (num 1) (block) (block))")
	body("for(;main;)break;", "(for (block) (pcmp != (func main) (null)) (block) (break))")
	body("for(;;2)continue;", "(for (block) (num 1) (do (num 2)) (continue))")
	body("switch(1)2;", "(switch (num 1) (do (num 2)))")
	body("switch('a'){case 'a':1;break;case -1:default:;}", "(switch (num 97) (block (case 97 (do (num 1))) (break) (case 4294967295 (default (block)))))")
	body("l:goto l;", "(label l (goto l))")
	body("goto l;l:m:;", "(goto l) (label l (label m (block)))")
	body("while(1){break;continue;}", "(while (num 1) (block (break) (continue)))")
	body("do{if(1)break;continue;}while(0);", "(repeat (block (when (num 1) (break)) (continue)) (num 0))")
	body("return 7;", "(return (num 7))")
	body("return'a'+1;", "(return (bin + (num 97) (num 1)))")
	means(t, "void e(void){return;}"+emptyMain, "(function e void 0 (block (return)))\n"+emptyMainCore)
	means(t, "void e(void){}"+emptyMain, "(function e void 0 (block))\n"+emptyMainCore)
	means(t, "char e(void){return 300;}"+emptyMain, "(function e i8 0 (block (return (conv i8 (num 300)))))\n"+emptyMainCore)
	means(t, "unsigned char e(unsigned char c){return c;}"+emptyMain, "(function e u8 (local 1 1 u8 0) 1 (block (return (load u8 (local 0)))))\n"+emptyMainCore)
	means(t, "int*e(void){return 0;}"+emptyMain, "(function e p 0 (block (return (null))))\n"+emptyMainCore)
	means(t, "void*e(int*p){return p;}"+emptyMain, "(function e p (local 4 4 p 0) 1 (block (return (load p (local 0)))))\n"+emptyMainCore)
}

func TestCoreOfTheExample(t *testing.T) {
	means(t, "int f(int a) { if (a < 3) return 1; else a--; return a; }\nint main(void) { return f(9); }\n",
		"(function f w (local 4 4 w 0) 1 (block (when (bin < (load w (local 0)) (num 3)) (return (num 1)) (do (update w old - (local 0) (num 1)))) (return (load w (local 0)))))\n"+
			"(function main w 0 (block (return (call f (num 9)))))\n")
}

func TestExamplesOfTops(t *testing.T) {
	says(t, 31, "@int main;")
	topsSay(t, 31, "int @f(void);")
	topsSay(t, 21, "int a; char @a;")
	topsSay(t, 22, "struct S @a;", "int a@[];")
	topsSay(t, 27, "int a[@0];", "int b; int a = @b;", "int b[2]; int *c = @&b[3];")
	topsSay(t, 32, "int a@[70000];")
	topsSay(t, 20, "int a = @b;")
	topsSay(t, 28, "int a[1] = @{1,2};", `char a[2] = @"abc";`, "int *a = @1;")
	topsSay(t, 0, "struct S *a;", `char a[2] = "ab";`, "int b[2]; int *a = b + 2;")
}

// The order of lines, of locals and of pieces.
func TestOrderInTheCore(t *testing.T) {
	means(t, `int f(int b,char a){int c;{short d;}for(unsigned e;;){"x";}return 0;} int g=1; char*h="y"; int z; int main(void){"z";return 0;}`,
		`(data $0 2 1 (text 0 "x\000"))
(data g 4 4 (at 0 w 1))
(data h 4 4 (at 0 p $1 0))
(data $1 2 1 (text 0 "y\000"))
(data z 4 4)
(data $2 2 1 (text 0 "z\000"))
(function f w (local 4 4 w 0) (local 1 1 i8 0) (local 4 4 w 0) (local 2 2 i16 0) (local 4 4 w 0) 2 (block (block (fresh 2)) (block (block (fresh 3))) (for (block (fresh 4)) (num 1) (block) (block (do (global $0)))) (return (num 0))))
(function main w 0 (block (do (global $2)) (return (num 0))))
`)
	// A function stands where it is defined, not where it is declared.
	means(t, "int b(void);int a(void){return b();}int b(void){return a();}"+emptyMain,
		"(function a w 0 (block (return (call b))))\n(function b w 0 (block (return (call a))))\n"+emptyMainCore)
	// Strings within sizeof, within casts and in the size of an array are come to as well, those in a param's size not.
	means(t, `int a[sizeof "abc"]; int f(int a[sizeof "d"]); int f(int*p){return (void)"e",*p;}`+emptyMain,
		`(data $0 4 1 (text 0 "abc\000"))
(data a 16 4)
(data $1 2 1 (text 0 "e\000"))
(function f w (local 4 4 p 0) 1 (block (return (seq (seq (global $1) (num 0)) (load w (load p (local 0)))))))
`+emptyMainCore)
	// Pieces stand in the order of the init, not of the places: these are the same here, but texts and words mix.
	means(t, `struct T{char a[3];short b;char*c;char d[2][2];}; struct T x[2]={{"ab",1,"q",{"z","yy"}},{{1,2},-1,0}};`+emptyMain,
		`(data x 32 4 (text 0 "ab\000") (at 4 i16 1) (at 8 p $0 0) (text 12 "z\000") (text 14 "yy") (at 16 i8 1) (at 17 i8 2) (at 20 i16 4294967295) (at 24 p 0 0))
(data $0 2 1 (text 0 "q\000"))
`+emptyMainCore)
}

// What T is for each use of a local.
func TestTakenLocals(t *testing.T) {
	for _, c := range []struct{ decl, use, local string }{
		{"int x;", "", "4 4 w 0"}, {"int x;", "x;", "4 4 w 0"}, {"int x;", "x=1;", "4 4 w 0"}, {"int x;", "x+=1;++x;x--;", "4 4 w 0"}, {"int x;", "&x;", "4 4 w 1"}, {"int x;", "*&x;", "4 4 w 0"}, {"int x;", "*&x=1;", "4 4 w 0"}, {"int x;", "(&x)[0];", "4 4 w 1"}, {"int x;", "*(char*)&x;", "4 4 w 1"}, {"int x;", "*(unsigned*)&x;", "4 4 w 0"}, {"int x;", "*(unsigned*)&x=1;", "4 4 w 0"}, {"int x;", "*(int**)&x;", "4 4 w 1"}, {"int x;", "*(short*)&x+=1;", "4 4 w 1"}, {"int x;", "*(int**)&x+=1;", "4 4 w 1"}, {"int x;", "*(char*)&x=1;", "4 4 w 1"},
		{"int x;", "sizeof &x;", "4 4 w 0"}, {"int x;", "&x==0;", "4 4 w 1"}, {"int x;", "!&x;", "4 4 w 1"}, {"int x;", "(void)&x;", "4 4 w 1"}, {"int x;", "if(&x);", "4 4 w 1"}, {"int x;", "x=1,x;", "4 4 w 0"}, {"int x=1;", "", "4 4 w 0"}, {"int x=x;", "", "4 4 w 0"}, {"int*x=(int*)&x;", "", "4 4 p 1"},
		{"int*x;", "x;*x;x[1];*x=1;x=0;x++;x+=2;", "4 4 p 0"}, {"int*x;", "&x;", "4 4 p 1"}, {"int*x;", "*(char**)&x;(*(char**)&x)++;", "4 4 p 0"}, {"int*x;", "*(int*)&x;", "4 4 p 1"}, {"int*x;", "*(int*)&x=0;", "4 4 p 1"}, {"int*x;", "++*(int*)&x;", "4 4 p 1"}, {"void*x;", "x=&x;", "4 4 p 1"}, {"void*x;", "x=x;", "4 4 p 0"},
		{"char x;", "x=x+1;x++;", "1 1 i8 0"}, {"char x;", "*(unsigned char*)&x;", "1 1 i8 1"}, {"unsigned char x;", "x|=1;", "1 1 u8 0"}, {"short x;", "x<<=1;", "2 2 i16 0"}, {"short x;", "*(unsigned short*)&x+=1;", "2 2 i16 1"}, {"unsigned short x;", "x;", "2 2 u16 0"}, {"unsigned x;", "x;*(int*)&x;", "4 4 w 0"},
		{"int x[2];", "", "8 4 m 1"}, {"int x[2];", "x[0];", "8 4 m 1"}, {"struct S x;", "", "12 4 m 1"}, {"union U x;", "x.a;", "4 4 m 1"}, {"char x[3];", "", "3 1 m 1"}, {"short x[]={1,2,3};", "", "6 2 m 1"}, {"int(*x)(int)=f;", "x(1);", "4 4 p 0"}, {"int(*x)(int)=f;", "(*x)(1);&x;", "4 4 p 1"},
	} {
		core, code, line, col := check(t, aBody+"int main(void){"+c.decl+c.use+"}")
		_, core, _ = strings.Cut(core, "(function main w ")
		if code != 0 || !strings.HasPrefix(core, "(local "+c.local+") 0 ") {
			t.Errorf("%s%s: %d %d %d %s", c.decl, c.use, code, line, col, core)
		}
		// As a param it is the same, when it can be one.
		if strings.Contains(c.decl, "=") || strings.Contains(c.local, "m") {
			continue
		}
		core, code, line, col = check(t, aBody+"int m("+strings.TrimSuffix(c.decl, ";")+"){"+c.use+"}"+emptyMain)
		_, core, _ = strings.Cut(core, "(function m w ")
		if code != 0 || !strings.HasPrefix(core, "(local "+c.local+") 1 ") {
			t.Errorf("param %s%s: %d %d %d %s", c.decl, c.use, code, line, col, core)
		}
	}
}
