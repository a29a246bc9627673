package tests

import (
	"strconv"
	"strings"
	"testing"

	"loop.example/s01681/impl"
)

func TestScopes(t *testing.T) {
	// Each scope hides what is around it, and is left at its end.
	means(t, "int x=1; int f(char x){{int*x;x;}x;for(short x;;)x;for(;;){unsigned char x;x;}return x;} int g(void){return x;}"+emptyMain,
		`(data x 4 4 (at 0 w 1))
(function f w (local 1 1 i8 0) (local 4 4 p 0) (local 2 2 i16 0) (local 1 1 u8 0) 1 (block (block (block (fresh 1)) (do (load p (local 1)))) (do (load i8 (local 0))) (for (block (fresh 2)) (num 1) (block) (do (load i16 (local 2)))) (for (block) (num 1) (block) (block (block (fresh 3)) (do (load u8 (local 3))))) (return (load i8 (local 0)))))
(function g w 0 (block (return (load w (global x)))))
`+emptyMainCore)
	topsSay(t, 20, "int f(void){{int x;}return @x;}", "int f(void){for(int x;;);return @x;}", "int f(int x){return x;}int g(void){return @x;}", "int f(void){int x;return x;}int a=@x;", "int f(void){if(1){int x;}else @x;return 0;}", "int f(void){do{int x;}while(@x);return 0;}", "int f(void){@x;int x;return x;}", "int f(void){return @x;}int x;", "int f(void){return @g();}int g(void){return 1;}", "int f(void){return sizeof @x;}", "int f(void){@x=1;return 0;}", "int f(void){@x();return 0;}", "int a[@n];", "int f(void){return @S;}struct S{int a;};", "enum E{A=@A};", "int f(void){return @E;}enum E{A};", "int f(void){l:return @l;}")
	topsSay(t, 21, "int f(int a){int @a;return 0;}", "int f(int a){for(int a;;){int a;char @a;}return 0;}", "int f(void){int a;int b;{int b;}char @b;return 0;}", "int f(void){for(int a;;);int b,@b;return 0;}", "int f(int a, int b, char @a){return 0;}", "int a,b,*@a;", "int f(void){{int a;{int a;}int @a;}return 0;}")
	topsSay(t, 0, "int f(int a){{int a;}return 0;}", "int f(int a){for(int a;;){int a;}return 0;}", "int f(int f){return f;}", "int f(int a,int b){for(int b;;)for(int b;;);return 0;}", "int a; int f(int a){return a;}", "int f(void){int f;return f;}", "int f(int g(int f)){return g(1);}", "int f(int a,int g(int a,int a)){return a;}", "int f(void){int a;{char a;{short a;}}{char a;}return a;}")
}

func TestVariablesInTheirOwnInit(t *testing.T) {
	topsSay(t, 0, "int a=sizeof a;", "void*a=&a;", "int*a[2]={(int*)a,(int*)(a+1)};", "struct S{struct S*n;};struct S s={&s};", "int f(void){int a=a;return a;}", "int a;int f(void){int*a=(int*)&a;return*a;}", "void*a[]={a,a+1,a+3,&a};", "int f(void){int a[]={a[1],*a};return 0;}")
	topsSay(t, 20, "int a=@b,b=a;", "int f(void){int a=@b,b=a;return 0;}")
	topsSay(t, 27, "int a=@a;", "void*a[]={a,a@+4};")
	// An array without a size is not complete in there.
	topsSay(t, 22, "int a[]={@sizeof a};", "int f(void){int a[]={1,@sizeof a};return 0;}", "int a[]={@sizeof(a)};")
	topsSay(t, 24, "int f(void){int a[]={@*&a==0};return 0;}", "int f(void){int a[]={(&a@+1)==0};return 0;}", "void*a[]={(&a@+1)};")
	topsSay(t, 0, "int a[]={sizeof &a, sizeof *a, sizeof a[0]};int b=sizeof a;", "int f(void){char a[]=\"abc\";return sizeof a;}")
	means(t, "int a[]={1,2};int b=sizeof a;int f(void){char c[]=\"abc\";return sizeof c;}"+emptyMain,
		`(data a 8 4 (at 0 w 1) (at 4 w 2))
(data b 4 4 (at 0 w 8))
(function f w (local 4 1 m 1) 0 (block (block (fresh 0) (zero 4 (local 0)) (do (store i8 (local 0) (num 97))) (do (store i8 (add 1 (local 0) (num 1)) (num 98))) (do (store i8 (add 1 (local 0) (num 2)) (num 99))) (do (store i8 (add 1 (local 0) (num 3)) (num 0)))) (return (num 4))))
`+emptyMainCore)
	topsSay(t, 23, "int f(void){int a[]={(a@=0,1)};return 0;}", "int f(void){int a[2]={(a@=0,1)};return 0;}")
}

func TestTheThreeFunctions(t *testing.T) {
	topsSay(t, 0, "int f(void){putchar(1);(putchar)(2);((getchar))();exit(3);return getchar()+putchar(4);}")
	topsSay(t, 24, "int f(void){@putchar;return 0;}", "int f(void){&@putchar;return 0;}", "int f(void){*@getchar;return 0;}", "int f(void){(*@putchar)(1);return 0;}", "int f(void){(&@putchar)(1);return 0;}", "int f(void){return (1?@putchar:0)(1);}", "int f(void){int(*p)(int)=@putchar;return 0;}", "int(*p)(int)=@putchar;", "int f(int(*g)(int)){return f(@putchar);}", "int f(void){return sizeof @exit;}", "int f(void){return @getchar==0;}", "int f(void){!@putchar;return 0;}", "int f(void){(void)@putchar;return 0;}", "int f(void){return @putchar;}", "int f(void){if(@exit);return 0;}", "int f(void){@putchar=0;return 0;}", "int f(void){@putchar++;return 0;}", "int f(void){(0,@putchar)(1);return 0;}", "int a[sizeof @exit];", "int f(void){return @getchar+1;}", "int f(void){getchar()[@putchar];return 0;}", "int f(void){@exit[1];return 0;}")
	topsSay(t, 26, "int f(void){putchar@();return 0;}", "int f(void){putchar@(1,2);return 0;}", "int f(void){getchar@(1);return 0;}", "int f(void){exit@();return 0;}")
	topsSay(t, 24, "int f(void){putchar@(\"\");return 0;}", "int f(void){return exit(1)@+1;}", "int f(void){int i=exit@(1);return i;}")
	// Declared once more, with their own types alone; they are defined from the beginning.
	topsSay(t, 0, "int putchar(int c);int getchar(void);void exit(int);", "int putchar(int),putchar(int x);", "typedef int F(int);F putchar;int f(void){return putchar(1);}")
	topsSay(t, 21, "int @putchar(void);", "void @putchar(int);", "char @getchar(void);", "int @exit(int);", "int @putchar(unsigned);", "int @putchar;", "int *@exit;", "enum E{@getchar};", "typedef int @exit;", "int @putchar(int c){return c;}", "int @getchar(void){return 1;}", "void @exit(int c){}", "int putchar(int); int @putchar(int c){return c;}")
	// Hidden, they are as any other name.
	topsSay(t, 0, "int f(int putchar){return putchar+1;}", "int f(void){int getchar=1;return getchar;}", "int f(int x){int(*exit)(int)=f;return exit(1)+(*exit)(2);}", "struct exit{int putchar;};int f(void){getchar:return((struct exit*)0)->putchar;}", "int f(void){for(int putchar=1;putchar;)putchar=0;return putchar(1);}")
	topsSay(t, 26, "int f(int putchar){return putchar@(1);}")
}

func TestTagsAreApart(t *testing.T) {
	topsSay(t, 0, "struct a{int a;};int a;", "int f(void){struct f*f;return f==0;}", "enum E{A};int E;", "typedef int T;struct T{T t;};struct T x={1};int f(void){return x.t;}", "int f(struct S*p){return p==0;}struct S{int a;};int g(struct S*p){return p->a;}", "int f(void){struct S*p;{struct S*q;p=q;}return p==0;}struct S*r;int g(void){struct S*q;q=r;return 0;}")
	// One word alone for each tag, from its first use on.
	topsSay(t, 22, "struct S*a;@union S*b;", "union S{int a;};@struct S*b;", "union S{int a;};int f(void){return sizeof(@struct S);}", "struct S{@union S*p;};", "struct S*a;@enum S b;", "struct S{int a;};@enum S b;", "enum E{A};@struct E*p;", "enum E{A};@struct E{int a;};", "enum E{A=sizeof(@struct E*)};", "struct S*a;@union S{int a;};", "union S{int a;};@struct S{int a;};", "@enum E e;", "int f(@enum E e){return 0;}enum E{A};", "int f(void){return sizeof(@enum E);}", "struct S{@enum E e;};", "typedef @enum E T;")
	topsSay(t, 21, "struct S{int a;};@struct S{int a;};", "union S{int a;};@union S{int b;};", "enum E{A};@enum E{B};", "struct S*p;@enum S{A};", "struct S{int a;};@enum S{A};", "union S{int a;};struct T*t;@enum T{A};")
	// It stands from its own { on.
	topsSay(t, 0, "struct S{struct S*n;int(*f)(struct S*);};", "union S{union S*n;};", "enum E{A=sizeof(enum E),B=(enum E)1};", "struct S*a;struct S{int a;};int f(void){return a->a;}", "enum E{A};enum E e;enum E f(enum E x){return x;}", "struct S*f(struct S*a);struct S{int x;};struct S*f(struct S*a){return a+1;}")
	topsSay(t, 22, "struct S{struct S @s;};", "struct S{struct S s@[2];};", "union U{union U @u;};", "struct S{struct T @t;};struct T{int a;};", "struct S{int a[sizeof(struct S*)];int b[@sizeof(struct S)];};")
	topsSay(t, 0, "struct S{struct S*p;};struct T{struct S s[2];struct S*t;};")
}

func TestEnumersAndTypedefs(t *testing.T) {
	means(t, "enum E{A,B,C=5,D,F=-1,G,H=4294967295u,I,J=A,L=D*2+1,M='a',N=(char)255,O=(unsigned char)255,P};int a[]={A,B,C,D,F,G,H,I,J,L,M,N,O,P};"+emptyMain,
		"(data a 56 4 (at 0 w 0) (at 4 w 1) (at 8 w 5) (at 12 w 6) (at 16 w 4294967295) (at 20 w 0) (at 24 w 4294967295) (at 28 w 0) (at 32 w 0) (at 36 w 13) (at 40 w 97) (at 44 w 4294967295) (at 48 w 255) (at 52 w 256))\n"+emptyMainCore)
	means(t, "enum E{A=2147483647,B,C=4294967294u,D,F};int main(void){return A+B+C+D+F;}",
		"(function main w 0 (block (return (bin + (bin + (bin + (bin + (num 2147483647) (num 2147483648)) (num 4294967294)) (num 4294967295)) (num 0)))))\n")
	// An enumer is a value of type int, whatever its expr is of.
	means(t, "enum E{A=4294967295u};int main(void){return (A>0)+(A/2)+sizeof A;}",
		"(function main w 0 (block (return (bin + (bin + (bin > (num 4294967295) (num 0)) (bin / (num 4294967295) (num 2))) (num 4)))))\n")
	topsSay(t, 21, "enum E{A,B,@A};", "enum E{A};enum F{@A};", "int a;enum E{@a};", "enum E{A};int @A;", "enum E{A};int @A(void);", "enum E{f};int @f(void){return 1;}", "int f(void);enum E{@f};", "enum E{A};typedef int @A;", "int f(void);typedef int @f;", "int a;typedef char @a;", "typedef int T;int f(void){return 1;}char *@f;")
	topsSay(t, 0, "enum E{A,};int f(int A){return A;}", "enum E{A};int f(void){{int A=1;return A;}}", "typedef int T;enum E{A=(T)1};", "typedef int T;typedef T*P;P p;int f(void){T x=1;p=&x;return*p;}")
	topsSay(t, 10, "typedef int T;int @T;", "typedef int T;typedef int @T;", "typedef int T;enum E{@T};")
	topsSay(t, 23, "enum E{A};int f(void){A@=1;return 0;}", "enum E{A};int f(void){A@++;return 0;}", "enum E{A};int f(void){@&A;return 0;}", "enum E{A};int f(void){A@+=1;return 0;}")
	// Typedefs of what no var may be.
	topsSay(t, 0, "typedef void V;typedef struct S S2;typedef int F(V*);V f(void){} V*p;S2*q;F*r;", "typedef int F(int);F f;int f(int x){return x;}F f;", "typedef int A[3];A a={1,2,3};int f(A b){return b[0];}int g(void){return f(a);}", "typedef int A[2];A b[3]={{1,2},{3}};")
	topsSay(t, 22, "typedef void V;V @a;", "typedef struct S T;T @a;", "typedef int F(void);F a@[2];", "typedef int A@[];", "typedef void V;int f(V @v);", "typedef void V;int f(@V);", "typedef int F(void);struct S{F @f;};", "typedef int F(void);int f(void){F @g;return 0;}", "typedef int A[2];A f@(void);", "typedef struct S T;T f@(void);")
	topsSay(t, 21, "typedef int F(int);F f;int @f(char x){return x;}", "typedef int F(int);F f;F *@f;", "typedef int F(int);int f(int x){return x;}int f(int);F f;int @f(int x){return x;}")
}

func TestFunctionsAndTheEnd(t *testing.T) {
	says(t, 31, "@")
	says(t, 31, "@ // nothing")
	says(t, 31, "@int main;")
	says(t, 31, "@int main(int a){return a;}")
	says(t, 31, "@void main(void){}")
	says(t, 31, "@char main(void){return 0;}")
	says(t, 31, "@unsigned main(void){return 0;}")
	says(t, 31, "@int*main(void){return 0;}")
	says(t, 31, "@enum E{main};")
	says(t, 31, "@typedef int main(void);")
	says(t, 31, "@struct main{int main;};")
	says(t, 31, "@int f(void){int main;return 0;}")
	says(t, 31, "int @main(void);")
	says(t, 31, "\n\n int @main(void);")
	says(t, 31, "int @main(int);")
	says(t, 31, "@\n\nint f(void){return 1;}")
	says(t, 31, "typedef int F(void);F @main;")
	says(t, 0, "int main(){return 0;}")
	says(t, 0, "typedef int I;I main(void){return 0;}")
	says(t, 0, "int main(void);int main(void){return 0;}int main(void);")
	says(t, 0, "enum E{A};enum E main(void){return A;}")
	says(t, 0, "int main(void){return main();}")
	topsSay(t, 31, "int @f(void);int g(void);", "int @f(void),g(void);", "int g(void){return 1;}int @f(void);int f(void);", "int g(void);int @f(void);int g(void){return f();}", "int (@f)(void);", "int *@f(int);char *g(int);", "typedef int F(void);F @f;")
	// A function may be declared often, with one type.
	topsSay(t, 0, "int f(int),f(int a),f(int b);int f(int c){return c;}int f(int);", "int f(int*),f(int a[]),f(int a[7]),f(int[sizeof(int)]);int f(int*p){return*p;}", "int f(int g(void));int f(int(*g)(void)){return g();}", "int f();int f(void){return 1;}", "enum E{A};int f(enum E);int f(int e){return e;}", "int f(struct S*);struct S{int a;};int f(struct S*s){return s->a;}")
	topsSay(t, 21, "int f(int);char @f(int);", "int f(int);int @f(int,int);", "int f(int);int @f(char);", "int f(int);int @f(int*);", "int f(int);int @f(unsigned);", "int f(int);int @f(int,int){return 1;}", "int f(void){return 1;}int @f(void){return 1;}", "int f(void){return 1;}char @f(void);", "int a;int @a(void);", "int a;int @a(void){return 1;}", "int f(void);int @f;", "int f(void){return 1;}int @f;", "int f(int*);int @f(char*);", "int f(void*);int @f(int*);", "struct S*f(void);union U*@f(void);", "int f(int a[]);int @f(int**a);", "int f(int a[][2]);int @f(int a[][3]);")
	topsSay(t, 0, "int f(int a[][2]);int f(int(*a)[2]){return a[0][0];}")
	// A definition's params.
	topsSay(t, 22, "int f(@int){return 1;}", "int f(int a,@int*){return 1;}", "int f(@int[]){return 1;}", "int f(int a,@int(*)(int b),int c){return 1;}", "int f(int(*g)(int),@char,int c){return 1;}")
	topsSay(t, 21, "int f(int a,int @a){return 1;}", "int f(int a,int b,int c,char*@b){return 1;}")
	topsSay(t, 0, "int f(int,char*,int[3],int(int));int f(int a,char*b,int*c,int(*d)(int)){return 1;}")
}

// many makes a text of pieces in which # is their number.
func many(count int, piece string) string {
	out := strings.Builder{}
	for i := range count {
		out.WriteString(strings.ReplaceAll(piece, "#", strconv.Itoa(i)))
	}
	return out.String()
}

func TestTooMuch(t *testing.T) {
	locals := impl.MaxLocals
	says(t, 0, "int main(void){"+many(locals, "int a#;")+"}")
	says(t, 32, "int main(void){"+many(locals, "int a#;")+"int @b;}")
	says(t, 32, "int main(void){"+many(locals, "{int a;}")+"for(int @b;;);}")
	says(t, 0, "int main(void){"+many(locals-1, "{int a;}")+"for(int b;;);}")
	says(t, 32, "int f(int x,int y){"+many(locals-3, "int a#;")+"int b=0,*@c;}")
	says(t, 0, "int f(int x,int y){"+many(locals-2, "int a#;")+"}int g(int x){"+many(locals-1, "int a#;")+"}"+emptyMain)
	// Behind the 22 for the type, ahead of the 21 for the name, and ahead of the init.
	says(t, 22, "int main(void){"+many(locals, "int a#;")+"void @a0;}")
	says(t, 32, "int main(void){"+many(locals, "int a#;")+"int @a0;}")
	says(t, 32, "int main(void){"+many(locals, "int a#;")+"int @b={1};}")
	says(t, 32, "int main(void){"+many(locals, "int a#;")+"int @b=x;}")
	says(t, 20, "int main(void){"+many(locals, "int a#;")+"int b[@x];}")
	globals := impl.MaxGlobals
	says(t, 0, many(globals, "int a#;")+emptyMain)
	says(t, 32, many(globals, "int a#;")+"int @b;"+emptyMain)
	says(t, 32, many(globals, "int a#;")+"int @a0;"+emptyMain)
	says(t, 22, many(globals, "int a#;")+"void @a0;"+emptyMain)
	says(t, 32, many(globals, "int a#;")+"int @b={1};"+emptyMain)
	says(t, 0, many(globals, "int a#;")+"int f(void);typedef int T;enum E{A};struct S{int a;};int f(void){int x;return 1;}"+emptyMain)
	says(t, 0, many(globals-1, "int a#;")+"int main(void){\"x\";}")
	says(t, 32, many(globals-1, "int a#;")+"int main(void){\"x\";@\"y\";}")
	says(t, 32, many(globals-1, "int a#;")+"char*b=@\"x\";"+emptyMain)
	says(t, 0, many(globals-1, "int a#;")+"char b[]=\"x\";"+emptyMain)
	says(t, 32, many(globals, "int a#;")+"int main(void){return sizeof @\"\";}")
	says(t, 0, many(globals, "int a#;")+"int main(void){char a[]=\"\";}")
	says(t, 0, "int main(void){"+many(globals, "\"\";")+"}")
	says(t, 32, "int main(void){"+many(globals, "\"\";")+"return *@\"x\";}")
	says(t, 0, "int f("+many(impl.MaxParams-1, "int a#,")+"int b);int f("+many(impl.MaxParams-1, "int,")+"int);int f("+many(impl.MaxParams-1, "int a#,")+"int b){return b;}"+emptyMain)
	topsSay(t, 32, "int f@("+many(impl.MaxParams, "int a#,")+"int b);", "int f@("+many(impl.MaxParams, "int a#,")+"int b){return b;}", "int(*p)@("+many(impl.MaxParams, "int a#,")+"int b);", "typedef void F@("+many(impl.MaxParams+40, "int,")+"int);", "int f(int g@("+many(impl.MaxParams, "int,")+"int));")
	says(t, 0, "struct S{"+many(impl.MaxFields, "char a#;")+"};struct S s;"+emptyMain)
	topsSay(t, 32, "@struct S{"+many(impl.MaxFields+1, "char a#;")+"};", "@union S{"+many(impl.MaxFields+1, "int*a#;")+"};", "@struct S{int a0"+many(impl.MaxFields, ",b#")+";};")
	says(t, 0, "union S{"+many(impl.MaxFields, "int a#;")+"};"+emptyMain)
}
