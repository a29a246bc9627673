package tests

import "testing"

func TestAliasesAsTypes(t *testing.T) {
	for text, want := range map[string]string{
		"T a;": "var:a(alias:T)", "T *a, b[2], c(void);": "var:a(pointer(alias:T)) var:b(array(alias:T number=2)) var:c(function(alias:T))", "T f(void){}": "definition:f(function(alias:T) block)", "T (*f(T))(T x);": "var:f(function(pointer(function(alias:T param:x(alias:T))) param(alias:T)))",
		"typedef T U; U a; T b;": "typedef:U(alias:T) var:a(alias:U) var:b(alias:T)", "struct S {T a; T *b, c;};": "structure.1:S(field:a(alias:T) field:b(pointer(alias:T)) field:c(alias:T))", "int f(T);": "var:f(function(base=6 param(alias:T)))", "int f(T, T);": "var:f(function(base=6 param(alias:T) param(alias:T)))",
		"int f(T a, T *);": "var:f(function(base=6 param:a(alias:T) param(pointer(alias:T))))", "int f(int (T));": "var:f(function(base=6 param(function(base=6 param(alias:T)))))", "int f(int (T x));": "var:f(function(base=6 param(function(base=6 param:x(alias:T)))))", "int f(T (T));": "var:f(function(base=6 param(function(alias:T param(alias:T)))))",
		"int f(T (x));": "var:f(function(base=6 param:x(alias:T)))", "int f(T ());": "var:f(function(base=6 param(function(alias:T))))", "int f(T (*)(T));": "var:f(function(base=6 param(pointer(function(alias:T param(alias:T))))))", "int f(int ((T)));": "var:f(function(base=6 param(function(base=6 param(alias:T)))))", "int f(int x(T));": "var:f(function(base=6 param:x(function(base=6 param(alias:T)))))",
		"int a[sizeof(T)];": "var:a(array(base=6 sizeoftype(alias:T)))", "int a = (T)1;": "var:a(base=6 cast(alias:T number=1))", "int a = (T *)b + (T)(c);": "var:a(base=6 binary.4(cast(pointer(alias:T) name:b) cast(alias:T name:c)))", "int a = (T)-b;": "var:a(base=6 cast(alias:T unary.2(name:b)))", "int a = sizeof(T) - b;": "var:a(base=6 binary.5(sizeoftype(alias:T) name:b))",
		"int a = (T (*)(T))b;": "var:a(base=6 cast(pointer(function(alias:T param(alias:T))) name:b))", "int a = sizeof(int(T));": "var:a(base=6 sizeoftype(function(base=6 param(alias:T))))", "enum E {A = sizeof(T), B = (T)1};": "enumeration:E(enumer:A(sizeoftype(alias:T)) enumer:B(cast(alias:T number=1)))",
		"int f(){T a; T *b = 1, c;}": "definition:f(function(base=6) block(var:a(alias:T) var:b(pointer(alias:T) number=1) var:c(alias:T)))", "int f(){for (T i = 1;;) ;}": "definition:f(function(base=6) block(for(var:i(alias:T number=1) empty empty empty)))", "int f(){{T a;} ; T b;}": "definition:f(function(base=6) block(block(var:a(alias:T)) empty var:b(alias:T)))",
		"int f(){T (a);}": "definition:f(function(base=6) block(var:a(alias:T)))", "int f(){T *a;}": "definition:f(function(base=6) block(var:a(pointer(alias:T))))", "int f(){(T)a;}": "definition:f(function(base=6) block(expression(cast(alias:T name:a))))", "int f(){return (T)a;}": "definition:f(function(base=6) block(return(cast(alias:T name:a))))", "int f(){case (T)1: ;}": "definition:f(function(base=6) block(case(cast(alias:T number=1) empty)))",
	} {
		showsTop(t, "typedef int T; "+text, "typedef:T(base=6) "+want)
	}
	shows(t, "typedef int T;\nT\n*a;", "unit@1(typedef:T@13(base=6@9) var:a@3:2(pointer@3:1(alias:T@2:1)))")
}

func TestAliasesAsWords(t *testing.T) {
	for text, want := range map[string]string{
		"struct T a;": "var:a(tag.1:T)", "union T a;": "var:a(tag.2:T)", "enum T a;": "var:a(tag.3:T)", "struct T {int a;};": "structure.1:T(field:a(base=6))", "union T {T a;};": "structure.2:T(field:a(alias:T))", "enum T {A};": "enumeration:T(enumer:A)", "struct T *f(struct T);": "var:f(function(pointer(tag.1:T) param(tag.1:T)))",
		"int a = b.T;": "var:a(base=6 member:T(name:b))", "int a = b->T;": "var:a(base=6 arrow:T(name:b))", "int a = b.T->T.T;": "var:a(base=6 member:T(arrow:T(member:T(name:b))))", "int a = sizeof(struct T);": "var:a(base=6 sizeoftype(tag.1:T))", "typedef struct T U;": "typedef:U(tag.1:T)", "int f(){struct T a; a.T;}": "definition:f(function(base=6) block(var:a(tag.1:T) expression(member:T(name:a))))",
	} {
		showsTop(t, "typedef int T; "+text, "typedef:T(base=6) "+want)
	}
}

func TestAliasesWhereNamesStand(t *testing.T) {
	for _, text := range []string{
		"int|T;", "int *|T;", "int (|T);", "int a,|T;", "T|T;", "T a,|T;", "int|T(void);", "int|T(void){}", "struct S {int|T;};", "struct S {T|T;};", "struct S {int a, *|T;};", "enum E {|T};", "enum E {A,|T};", "typedef int|T;", "typedef T|T;", "typedef int (*|T)(void);", "int f(int|T);", "int f(int *|T);", "int f(T|T);", "int f(int (*|T)(void));", "int f(int a, int|T){}", "int f(int ((*|T)));", "int f(struct T|T);",
		"int f(){int|T;}", "int f(){T|T;}", "int f(){T|;}", "int f(){T|: ;}", "int f(){T|= 1;}", "int f(){T (|);}", "int f(){T|+ 1;}", "int f(){T|.a;}", "int f(){T|++;}", "int f(){goto|T;}", "int f(){l:|T: ;}", "int f(){l:|T a;}", "int f(){if (a)|T b;}", "int f(){if (a)|T: ;}", "int f(){while (a)|T b;}", "int f(){for (int|T;;) ;}", "int f(){for (T|;;) ;}", "int f(){for (;|T;) ;}", "int f(){for (;;|T) ;}", "int f(){if (|T) ;}", "int f(){return|T;}",
		"int f(){case|T: ;}", "int f(){a +|T;}", "int f(){a(|T);}", "int f(){a[|T];}", "int f(){a = |T;}", "int f(){(a,|T);}", "int f(){(T)|;}", "int f(){(T|+ 1);}", "int f(){(T|a)b;}", "int f(){(T)|T;}", "int f(){sizeof|T;}", "int f(){sizeof(T)|a;}", "int f(){++(|T)a;}", "int f(){-|T;}", "int a =|T;", "int a = {|T};", "int a[|T];", "enum E {A =|T};", "T|;", "T *|;", "T|= 1;", "T|{}", "T a|b;", "T|1;", "T (|);", "unsigned|T a;", "T|int a;", "int|T a;", "int a = (unsigned|T)b;", "int a = (T|int)b;",
		"int a = (int (T)|x)b;", "int a = ((T)|)b;",
	} {
		stops(t, "typedef int T; "+text)
	}
}

func TestWhereAliasesBegin(t *testing.T) {
	for text, want := range map[string]string{
		// Ahead of its typedef, and within it, a word is a NAME.
		"int T; typedef int T; T a;": "var:T(base=6) typedef:T(base=6) var:a(alias:T)", "int a = T; typedef int T;": "var:a(base=6 name:T) typedef:T(base=6)", "int T(void){T: goto T;} typedef int T;": "definition:T(function(base=6) block(label:T(goto:T))) typedef:T(base=6)", "enum T {T}; typedef enum T T; T a;": "enumeration:T(enumer:T) typedef:T(tag.3:T) var:a(alias:T)",
		"typedef int T[sizeof(T)];": "typedef:T(array(base=6 sizeofexpr(name:T)))", "typedef int T[T];": "typedef:T(array(base=6 name:T))", "typedef int T(int T);": "typedef:T(function(base=6 param:T(base=6)))", "typedef int (*T)(int (T));": "typedef:T(pointer(function(base=6 param:T(base=6))))", "typedef int T[(T)(1)];": "typedef:T(array(base=6 call(name:T number=1)))", "typedef struct T T; struct T {T *T2;};": "typedef:T(tag.1:T) structure.1:T(field:T2(pointer(alias:T)))",
		"typedef int T; typedef T U; typedef U V; V a;": "typedef:T(base=6) typedef:U(alias:T) typedef:V(alias:U) var:a(alias:V)",
		// Words of other cases and lengths, and what looks like a typedef in a text or a comment, are none.
		"typedef int T; int t, TT, T_;": "typedef:T(base=6) var:t(base=6) var:TT(base=6) var:T_(base=6)", "int a = \"typedef int T;\"; int T; // typedef int T;\nint b = T;": "var:a(base=6 string:typedef int T;) var:T(base=6) var:b(base=6 name:T)",
		// A param or an enumer within a typedef is not named by it.
		"typedef int T(int U); int U;": "typedef:T(function(base=6 param:U(base=6))) var:U(base=6)", "typedef int (*T(int U))(int V); int U, V; T a;": "typedef:T(function(pointer(function(base=6 param:V(base=6))) param:U(base=6))) var:U(base=6) var:V(base=6) var:a(alias:T)", "typedef struct U T; int U;": "typedef:T(tag.1:U) var:U(base=6)",
	} {
		showsTop(t, text, want)
	}
	for _, text := range []string{"|T a; typedef int T;", "typedef|T T;", "typedef int T(|T);", "typedef int T[sizeof(T *|)];", "typedef int T[(T)|1];", "int f(){T|a;} typedef int T;", "typedef int T; typedef int|T;", "typedef int T; typedef T U; int|U;", "typedef int T; int a; int f(void){} int|T;", "int f(|T *); typedef int T;", "typedef int T|, U;", "int a = (T)|b; typedef int T;"} {
		stops(t, text)
	}
	// The ; itself is no part of what comes behind it.
	showsTop(t, "typedef int T;T a;", "typedef:T(base=6) var:a(alias:T)")
	showsTop(t, "int T;typedef int T;struct T T2;", "var:T(base=6) typedef:T(base=6) var:T2(tag.1:T)")
}
