package tests

import (
	"slices"
	"strings"
	"testing"

	"loop.example/s01681/impl"
)

// prints asks for the text of a source's tree.
func prints(t *testing.T, text, want string) {
	t.Helper()
	tree, code, line, col := parse(t, text)
	got, ok := impl.Print(tree)
	if code != 0 || !ok || string(got) != want {
		t.Errorf("%.300q: %d, %d, %d, %q, %v, not %q", text, code, line, col, got, ok, want)
	}
	if code == 0 {
		checkPrint(t, tree)
	}
}

// printsStmt asks for the text of stmts in a body.
func printsStmt(t *testing.T, text, want string) {
	t.Helper()
	prints(t, "int f(){"+text+"}", "int f ( void ) {\n"+want+"}\n")
}

func TestPrintOfTops(t *testing.T) {
	for text, want := range map[string]string{
		"": "", "int a;": "int a ;\n", "void a;": "void a ;\n", "signed char a;": "char a ;\n", "unsigned char a;": "unsigned char a ;\n", "short int a;": "short a ;\n", "unsigned short a;": "unsigned short a ;\n", "signed a;": "int a ;\n", "unsigned a;": "unsigned int a ;\n", "struct S a;": "struct S a ;\n", "union U a;": "union U a ;\n", "enum E a;": "enum E a ;\n",
		"typedef int T; T a;": "typedef int T ;\nT a ;\n", "typedef int *T[2];": "typedef int * T [ 2 ] ;\n", "int a, *b, c = 1;": "int a ;\nint * b ;\nint c = 1 ;\n", "struct S {int a, b;};": "struct S {\nint a ;\nint b ;\n}\n;\n", "union U {int a;};": "union U {\nint a ;\n}\n;\n", "enum E {A};": "enum E {\nA }\n;\n", "enum E {A,};": "enum E {\nA }\n;\n", "enum E {A, B = 1, C,};": "enum E {\nA , B = 1 , C }\n;\n",
		"int a = {1};": "int a = {\n1 }\n;\n", "int a = {1, {2,}, 3,};": "int a = {\n1 , {\n2 }\n, 3 }\n;\n", "int f(){}": "int f ( void ) {\n}\n", "int f(int a, char){}": "int f ( int a , char ) {\n}\n", "int f(void) = 1;": "int f ( void ) = 1 ;\n", "int a = b = c;": "int a = ( b = c ) ;\n", "int a = (b, c);": "int a = ( b , c ) ;\n", "int a = {b = c, (d, e), f + g};": "int a = {\n( b = c ) , ( d , e ) , f + g }\n;\n",
		"enum E {A = (b = c), B = (d, e), C = f ? g : h};": "enum E {\nA = ( b = c ) , B = ( d , e ) , C = f ? g : h }\n;\n", "int a[(b = c)], d[(e, f)], g[h + i];": "int a [ ( b = c ) ] ;\nint d [ ( e , f ) ] ;\nint g [ h + i ] ;\n", "int a = {{1}, b ? c : d};": "int a = {\n{\n1 }\n, b ? c : d }\n;\n",
	} {
		prints(t, text, want)
	}
}

func TestPrintOfDeclarations(t *testing.T) {
	for text, want := range map[string]string{
		"a": "a", "((a))": "a", "*a": "* a", "*(*(a))": "* * a", "a[1]": "a [ 1 ]", "a[]": "a [ ]", "a[1][2]": "a [ 1 ] [ 2 ]", "*a[1]": "* a [ 1 ]", "(*a)[1]": "( * a ) [ 1 ]", "*(*a)[1]": "* ( * a ) [ 1 ]", "(**a)[1]": "( * * a ) [ 1 ]", "(*(*a)[1])[2]": "( * ( * a ) [ 1 ] ) [ 2 ]", "a()": "a ( void )", "*a(void)": "* a ( void )", "(*a)()": "( * a ) ( void )", "(*a[2])()": "( * a [ 2 ] ) ( void )",
		"(*a(int x))(char)": "( * a ( int x ) ) ( char )", "a()()": "a ( void ) ( void )", "a()[1]": "a ( void ) [ 1 ]", "(*(*a)())()": "( * ( * a ) ( void ) ) ( void )", "a(int, char *, short x[])": "a ( int , char * , short x [ ] )", "a(int (*)(void))": "a ( int ( * ) ( void ) )", "a(int (void))": "a ( int ( void ) )", "a(int (()))": "a ( int ( void ) )", "a(int ((int)))": "a ( int ( int ) )", "a(int [2][3])": "a ( int [ 2 ] [ 3 ] )", "a(int (*x)[3])": "a ( int ( * x ) [ 3 ] )",
		"a(void *, void)": "a ( void * , void )", "a(struct S, enum E e)": "a ( struct S , enum E e )", "a(unsigned, unsigned x)": "a ( unsigned int , unsigned int x )",
	} {
		prints(t, "int "+text+";", "int "+want+" ;\n")
		prints(t, "typedef int "+text+";", "typedef int "+want+" ;\n")
		prints(t, "struct S {int "+text+";};", "struct S {\nint "+want+" ;\n}\n;\n")
		prints(t, "int f(char, int "+text+");", "int f ( char , int "+want+" ) ;\n")
		prints(t, "unsigned short "+text+" = 1;", "unsigned short "+want+" = 1 ;\n")
		printsStmt(t, "int "+text+";", "int "+want+" ;\n")
		printsStmt(t, "for (int "+text+" = 1;;) ;", "for ( int "+want+" = 1 ;\n;\n) ;\n")
	}
	for text, want := range map[string]string{
		"": "", "*": "* ", "[1]": "[ 1 ] ", "[]": "[ ] ", "(*)[1]": "( * ) [ 1 ] ", "*[1]": "* [ 1 ] ", "()": "( void ) ", "(())": "( void ) ", "(*)()": "( * ) ( void ) ", "(**)(int)": "( * * ) ( int ) ", "(*(*)())[1]": "( * ( * ) ( void ) ) [ 1 ] ", "(*[2])()": "( * [ 2 ] ) ( void ) ", "()()": "( void ) ( void ) ", "*()": "* ( void ) ", "(int x)": "( int x ) ",
	} {
		printsStmt(t, "(int"+text+")a;", "( int "+want+") a ;\n")
		printsStmt(t, "sizeof(int"+text+");", "sizeof ( int "+want+") ;\n")
		prints(t, "int f(int "+text+", char);", "int f ( int "+want+", char ) ;\n")
	}
}

func TestPrintOfStmts(t *testing.T) {
	for text, want := range map[string]string{
		"": "", "{}": "{\n}\n", "{;}": "{\n;\n}\n", ";": ";\n", "a;": "a ;\n", "(a, b);": "a , b ;\n", "(a = b);": "a = b ;\n", "int a, b;": "int a ;\nint b ;\n", "if (a) ;": "if ( a ) ;\n", "if (a) b; else c;": "if ( a ) b ;\nelse c ;\n", "if (a) {} else {}": "if ( a ) {\n}\nelse {\n}\n", "if ((a, b)) ; else if (c) ;": "if ( a , b ) ;\nelse if ( c ) ;\n", "while (a) b;": "while ( a ) b ;\n", "while ((a = b)) {}": "while ( a = b ) {\n}\n",
		"do ; while (a);": "do ;\nwhile ( a ) ;\n", "do {} while ((a, b));": "do {\n}\nwhile ( a , b ) ;\n", "for (;;) ;": "for ( ;\n;\n) ;\n", "for (a; b; c) d;": "for ( a ;\nb ;\nc ) d ;\n", "for (a, b; (c); (d, e)) {}": "for ( a , b ;\nc ;\nd , e ) {\n}\n", "for (int i = 1; a;) ;": "for ( int i = 1 ;\na ;\n) ;\n", "for (int i; ; a) ;": "for ( int i ;\n;\na ) ;\n", "switch (a) {case 1: default: ;}": "switch ( a ) {\ncase 1 : default : ;\n}\n",
		"case (a, b): ;": "case ( a , b ) : ;\n", "case (a = b): ;": "case ( a = b ) : ;\n", "case a ? b : c: ;": "case a ? b : c : ;\n", "case (a + b): ;": "case a + b : ;\n", "l: m: ;": "l : m : ;\n", "goto l;": "goto l ;\n", "break;": "break ;\n", "continue;": "continue ;\n", "return;": "return ;\n", "return (a, b);": "return a , b ;\n", "return a = b;": "return a = b ;\n", "return -a;": "return - a ;\n", "default: {}": "default : {\n}\n",
	} {
		printsStmt(t, text, want)
		printsStmt(t, "a;"+text+";", "a ;\n"+want+";\n")
	}
}

func TestPrintOfAtoms(t *testing.T) {
	for text, want := range map[string]string{
		"a": "a", "0": "0", "1u": "1u", "0x10": "16", "010": "8", "4294967295": "4294967295u", "2147483647": "2147483647", "'a'": "'a'", `'\n'`: `'\n'`, `'\0'`: `'\000'`, `'\377'`: `'\377'`, `'\''`: `'\''`, `'"'`: `'"'`, `""`: `""`, `"a b"`: `"a b"`, `"\x41\n\"\\"`: `"A\n\"\\"`, `";"`: `";"`, `"{"`: `"{"`, `'}'`: `'}'`, `';'`: `';'`,
	} {
		printsStmt(t, text+";", want+" ;\n")
		prints(t, "int a = "+text+";", "int a = "+want+" ;\n")
		printsStmt(t, "-("+text+");", "- "+want+" ;\n")
	}
}

// operands are exprs of each kind, and whether they stand in brackets as an operand, and as an argument.
var operands = []struct {
	text              string
	operand, argument bool
}{
	{"1", false, false}, {"\"s\"", false, false}, {"a", false, false}, {"a [ b ]", false, false}, {"a ( b )", false, false}, {"a ( )", false, false}, {"a . b", false, false}, {"a -> b", false, false}, {"a ++", false, false}, {"a --", false, false}, {"'c'", false, false},
	{"++ a", true, false}, {"-- a", true, false}, {"+ a", true, false}, {"- a", true, false}, {"~ a", true, false}, {"! a", true, false}, {"* a", true, false}, {"& a", true, false}, {"sizeof a", true, false}, {"sizeof ( int )", true, false}, {"( int ) a", true, false},
	{"a * b", true, false}, {"a + b", true, false}, {"a || b", true, false}, {"a < b", true, false}, {"a ? b : c", true, false}, {"a = b", true, true}, {"a += b", true, true}, {"a >>= b", true, true}, {"a , b", true, true},
}

func TestPrintOfOperands(t *testing.T) {
	holders := []string{"# [ 1 ]", "# ( 1 )", "# ( )", "# . x", "# -> x", "# ++", "# --", "++ #", "-- #", "- #", "+ #", "~ #", "! #", "* #", "& #", "sizeof #", "( char ) #", "# ? 1 : 2", "1 ? # : 2", "1 ? 2 : #", "# = 1", "1 = #", "# += 1", "1 |= #", "# , 1", "1 , #"}
	for _, s := range binariesBy[1:] {
		holders = append(holders, "# "+s+" 1", "1 "+s+" #")
	}
	for _, o := range operands {
		for _, holder := range holders {
			want := strings.ReplaceAll(holder, "#", o.text)
			if o.operand {
				want = strings.ReplaceAll(holder, "#", "( "+o.text+" )")
			}
			printsStmt(t, strings.ReplaceAll(holder, "#", "("+o.text+")")+";", want+" ;\n")
		}
		argument := o.text
		if o.argument {
			argument = "( " + o.text + " )"
		}
		printsStmt(t, "f(("+o.text+"),("+o.text+"));", "f ( "+argument+" , "+argument+" ) ;\n")
		printsStmt(t, "case ("+o.text+"): ;", "case "+argument+" : ;\n")
		printsStmt(t, "a[("+o.text+")];", "a [ "+o.text+" ] ;\n")
		printsStmt(t, "return ("+o.text+");", "return "+o.text+" ;\n")
		printsStmt(t, "if (("+o.text+")) ;", "if ( "+o.text+" ) ;\n")
		printsStmt(t, "for (("+o.text+");("+o.text+");("+o.text+")) ;", "for ( "+o.text+" ;\n"+o.text+" ;\n"+o.text+" ) ;\n")
		prints(t, "int a[("+o.text+")] = ("+o.text+"), b = {("+o.text+")};", "int a [ "+argument+" ] = "+argument+" ;\nint b = {\n"+argument+" }\n;\n")
		prints(t, "enum E {A = ("+o.text+")};", "enum E {\nA = "+argument+" }\n;\n")
	}
}

func TestPrintOfTreesThatParseCannotWrite(t *testing.T) {
	// What a source cannot say without brackets, a tree can.
	for _, c := range []struct {
		g    *grown
		want string
	}{
		{grow("index", grow("comma", grow("name").s("a"), grow("name").s("b")), grow("name").s("c")), "( a , b ) [ c ]"},
		{grow("assignment", grow("assignment", grow("name").s("a"), grow("name").s("b")).m(4), grow("name").s("c")), "( a += b ) = c"},
		{grow("post", grow("post", grow("name").s("a")).m(2)).m(1), "a -- ++"},
		{grow("sizeofexpr", grow("cast", grow("base").n(6), grow("number").n(1))), "sizeof ( ( int ) 1 )"},
		{grow("member", grow("number").n(1)).s("x"), "1 . x"},
		{grow("call", grow("string").s("s")), "\"s\" ( )"},
	} {
		tree := grow("unit", inBody(grow("expression", c.g))).tree()
		text, ok := impl.Print(tree)
		if want := "int f ( void ) {\n" + c.want + " ;\n}\n"; !ok || string(text) != want {
			t.Errorf("%q, %v, not %q", text, ok, want)
		}
		checkPrint(t, tree)
	}
}

func TestTextsThatAreTooGreat(t *testing.T) {
	// Valid trees whose text Parse cannot read, for its bytes or its tokens.
	long := grow("list")
	for range 130 {
		long.kids = append(long.kids, grow("string").s(strings.Repeat("\x00", impl.MaxString)))
	}
	checkPrint(t, grow("unit", grow("var", grow("base").n(6), long).s("a")).tree())
	many := grow("unit")
	for range 1300 {
		many.kids = append(many.kids, grow("var", grow("function", grow("base").n(7))).s("a"))
	}
	checkPrint(t, many.tree())
	text, ok := impl.Print(many.tree())
	if _, code, _, _ := impl.Parse(text); !ok || code != 1 && code != 9 {
		t.Errorf("%d bytes are read: %d", len(text), code)
	}
}

func TestAnswersOfPrintShareNoMemory(t *testing.T) {
	tree := parsed(t, "int f(int a){return a + 1;}").tree()
	a, _ := impl.Print(tree)
	b, _ := impl.Print(tree)
	if touch(a, b) || !slices.Equal(a, b) {
		t.Errorf("two answers share memory, or are not the same")
	}
	clear(a)
	if c, _ := impl.Print(tree); !slices.Equal(b, c) {
		t.Errorf("an answer hangs on an older one")
	}
}
