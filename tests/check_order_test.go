package tests

import (
	"strings"
	"testing"
)

func plain(marked string) string { return strings.ReplaceAll(marked, "@", "") }

type wrongCase struct {
	code   int
	marked string
}

// Of two errors in one source the one that is come to first is told, in either order.
func TestFirstOfTwoTops(t *testing.T) {
	t.Parallel()
	wrong := []wrongCase{
		{20, "int w1=@nil;"}, {20, "int w2(void){return @nil;}"}, {20, "enum W3{W3=@nil};"}, {20, "int w4[@nil];"},
		{21, "int @o;"}, {21, "@struct O{int a;};"}, {21, "enum W5{@o};"}, {21, "typedef int @ot;"}, {21, "int @o(void){return 1;}"}, {21, "int w6(int a,int @a){return 1;}"}, {21, "struct W7{int a;int @a;};"}, {21, "int w8(void){int a;{int a;}int @a;}"},
		{22, "void @w9;"}, {22, "@union O*w10;"}, {22, "@enum O w11;"}, {22, "int w12@[];"}, {22, "struct W13{void @a;};"}, {22, "int w14@(void)[2];"}, {22, "int w15(void @a);"}, {22, "int w16(@int){return 1;}"}, {22, "int w17(void){int @f(void);}"}, {22, "int w18=@sizeof(void);"},
		{23, "int w19(void){1@=2;}"}, {23, "int*w20=@&1;"}, {24, "int w21(void){\"\"@*1;}"}, {24, "int w22=\"\"@*2;"}, {24, "int w23=@putchar;"}, {24, "int w24(void){@return \"\";}"},
		{25, "int w25(struct O*p){return p@->z;}"}, {26, "int w26(void){1@();}"}, {26, "int w27=getchar@(1);"},
		{27, "int w28=@o;"}, {27, "int w29[@0];"}, {27, "int*w30=&o@+2;"}, {28, "int*w31=@1;"}, {28, "int w32=@{1};"}, {28, "int @w33(void)=1;"},
		{29, "int w34(void){@break;}"}, {29, "int w35(void){@goto x;}"}, {29, "int w36(void){x:;@x:;}"}, {30, "int w37(void){@return;}"}, {30, "void w38(void){@return 1;}"},
		{32, "int w39@[15001];"}, {32, "@struct W40{char a[60000],b;};"}, {32, "int w41@(int,int,int,int,int,int,int,int,int);"},
	}
	head := "int o,ot;struct O{int a;};"
	for i, a := range wrong {
		topsSay(t, a.code, head+a.marked, head+"int w99(void);"+a.marked)
		for j, b := range wrong {
			if i != j {
				topsSay(t, a.code, head+a.marked+plain(b.marked), head+"int u1(void){return 1;}"+a.marked+"int u2;\n"+plain(b.marked))
			}
		}
		// What the end asks for comes behind them all.
		says(t, a.code, head+a.marked)
		says(t, a.code, head+"int v(void);"+a.marked)
		says(t, a.code, head+"void main(void){}"+a.marked)
	}
}

func TestFirstOfTwoStmts(t *testing.T) {
	t.Parallel()
	wrong := []wrongCase{
		{20, "@nil;"}, {20, "int w1=@nil;"}, {21, "int @i;"}, {21, "{int a,@a;}"}, {22, "void @w2;"}, {22, "@union S*w3;"}, {22, "int @w4(void);"}, {22, "@sizeof f;"}, {23, "1@=2;"}, {23, "@&3;"}, {23, "i++@++;"},
		{24, "p@*2;"}, {24, "@if(s);"}, {24, "@switch(p);"}, {24, "s@=1;"}, {24, "int w5=@p;"}, {24, "@putchar;"}, {24, "@return p;"}, {24, "@for(;s;);"}, {25, "s@.z;"}, {26, "f@();"}, {26, "i@();"}, {27, "int w6[@i];"}, {27, "switch(i)case @i:;"}, {27, "sizeof(int[@0]);"}, {28, "int w7=@{1};"}, {28, "char w8[1]=@\"ab\";"},
		{29, "@break;"}, {29, "@continue;"}, {29, "@case 1:;"}, {29, "@default:;"}, {29, "switch(i){case 1:;@case 1:;}"}, {29, "l:;@l:;"}, {30, "@return;"}, {32, "int w9@[15001];"},
	}
	around := []string{"#", "{#}", "if(i){#}else;", "if(i);else{#}", "while(i){#}", "do{#}while(i);", "for(;;){#}", "switch(i){#}", "switch(i)default:{#}", "lab:{#}"}
	for i, a := range wrong {
		for j, b := range wrong {
			if i != j {
				bodiesSay(t, a.code, a.marked+plain(b.marked))
			}
		}
		for _, c := range around {
			if c != "#" && a.marked == "int @i;" {
				continue
			}
			if a.code == 29 && strings.ContainsAny(c, "wfd") && !strings.Contains(a.marked, "l:;") && !strings.Contains(a.marked, "1:;@") {
				continue
			}
			bodiesSay(t, a.code, strings.Replace(c, "#", a.marked, 1)+"goto nowhere;", "goto nowhere;"+strings.Replace(c, "#", a.marked, 1), strings.Replace(c, "#", a.marked+"nil;", 1)+"nil;")
		}
	}
}

func TestEndsOfFunctions(t *testing.T) {
	topsSay(t, 29, "int f(void){@goto x;}int a=nil;", "int f(void){goto y;@goto x;y:goto z;}int g(void){return nil;}")
	topsSay(t, 20, "int a=@nil;int f(void){goto x;}", "int f(void){goto x;@nil;}", "int f(void){goto x;{@nil;}y:;}int g(void){goto z;}")
	topsSay(t, 21, "int f(void){goto x;int a,@a;}")
	topsSay(t, 29, "int g(void);int f(void){@goto x;}", "int f(void){goto y;{@goto x;}goto w;y:;}")
	// What is declared and not defined, in the order of the places; then main.
	says(t, 31, "int @f(void);int g(void);void main(void){}")
	says(t, 31, "int f(void);int @g(void);int f(void){return 1;}")
	says(t, 31, "@int f(void);int f(void){return 1;}char main(void){return 1;}")
	says(t, 31, "void g(void){}int h(void){return 1;}\n int f(void),\n @k(void);int f(void){return 1;}"+emptyMain)
	says(t, 31, "int h(void),@main(void),g(void);int h(void){return 1;}")
	says(t, 29, "int f(void);int main(void){@goto x;}")
	says(t, 20, "int f(void);int main(void){return @x;}")
}

// Errors in kids come ahead of their node's, where nothing else is said.
func TestKidsAheadOfNodes(t *testing.T) {
	bodiesSay(t, 20, "p*@nil;", "@nil*s;", "a[@nil];", "i[@nil];", "w[@nil];", "@nil[s];", "3=@nil;", "v()=@nil;", "s+=@nil;", "a=@nil;", "i?s:@nil;", "i?@nil:s;", "i?v():@nil;", "(struct S)@nil;", "(char*)(1,@nil);", "&(@nil+1);", "f(@nil);", "f(-@nil);", "return @nil;", "i=s.a+@nil;", "p-@nil;", "p<@nil;", "p&@nil;", "w+@nil;", "p=@nil;", "s=@nil;", "i,@nil;", "s,@nil;", "p==@nil;", "(@nil,s);", "sizeof(@nil,s);", "-(@nil)+s;", "s.a[@nil];", "i+=@nil;", "3+=@nil;", "p*=@nil;", "(int(*)[@nil])3;", "int z[@nil]={1,2};", "void*z[@nil]={{1}};", "fp(@nil);")
	// A value that is not scalar is told right behind coming to it, ahead of the kids that come next.
	bodiesSay(t, 24, "s@*nil;", "v()@+nil;", "s@[nil];", "s@&&nil;", "un@||nil;", "s@?nil:nil;", "v()@?nil:1;", "s@<nil;", "s@==nil;", "@if(s)nil;", "@while(v())nil;", "@switch(s)nil;", "@for(;s;nil)nil;", "@for(;v();)nil;", "@if(s)1;else nil;", "f@(s);", "switch(i){@case s:nil;}", "s@-nil;", "un@<<nil;", "s@|nil;")
	bodiesSay(t, 20, "s.a=@nil;", "@do @nil;while(s);"[1:], "for(@nil;s;);", "s=@nil;", "i=i?s:@nil;", "p[@nil]=s;", "do{@nil;}while(v());", "for(int z=@nil;s;);")
	bodiesSay(t, 24, "@do;while(s);nil;", "p@*1,nil;", "f@(p),nil;")
	// Arguments: how many comes ahead of them; each is given right behind it is come to.
	bodiesSay(t, 26, "f@(nil,2);", "f@(s,2);", "i@(nil);", "v@(nil);", "s@(nil);", "v()@(nil);", "fp@(nil,s);", "putchar@(nil,1);", "f@(3=4,5);", "a@(nil);", "(*p)@(nil);")
	topsSay(t, 24, "int k(int a,int b){return k@(\"\",nil);}", "struct S{int a;};int k(int a,struct S*b){return k@(*b,nil);}", "int k(int*a,int b){return k@(1,3=4);}", "int k(int a,int*b,int c){return k@(a,a,nil);}", "int k(int a,int b){int(*p)(int,int)=k;return p@(p,nil);}")
	topsSay(t, 20, "int k(int a,int b){return k(a,@nil)+k(\"\",1);}", "int k(int a,int b){return k(@nil,\"\");}", "int k(int*a,int*b){return k(0,@nil);}")
	bodiesSay(t, 20, "@nil(1,2,3);", "@nil(nil2);", "(*@nil)(1);", "(@nil+1)();")
	// Of the rules of one node.
	bodiesSay(t, 23, "3@=s;", "3@=p;", "a@=s;", "f@=v();", "K@=p;", "s@+=p;", "a@*=p;", "f@+=v();", "3@+=s;", "a@++;", "f@++;", "un@+=s;")
	bodiesSay(t, 24, "w@++;", "w@+=p;", "w@*=1;", "i@.z;", "sp@.z;", "s@->z;", "q@->z;")
	bodiesSay(t, 25, "s@.z+nil;", "s@.z=nil;", "sp@->z.y;", "s@.z.y;", "sp@->z->y;")
	topsSay(t, 30, "struct S{int a;};struct S s;void k(void){@return s;}", "void k(void){@return\"\";}", "void k(void){@return k();}")
	topsSay(t, 20, "void k(void){return @nil;}", "int k(void){return \"\"==@nil;}")
	topsSay(t, 30, "void k(void){@return 1;nil;}", "int k(void){@return;nil;}")
}

func TestOrderInDeclarations(t *testing.T) {
	// Structures: first the word, then that it is complete, then the fields, then how many and how great.
	topsSay(t, 22, "union S{int a;};@struct S{void x;};", "struct S*p;@union S{int a;int a;};", "enum S{A};@struct S{void x;};")
	topsSay(t, 21, "struct S{int a;};@struct S{void x;};", "union S{int a;};@union S{int a;int a;};", "struct S{int a;};@struct S{char a[60000],b;};", "struct S{int a;};@struct S{int b[nil];};")
	topsSay(t, 22, "struct S{void @a;int b;int b;};", "struct S{int a;void @a;};", "struct S{char a[60000];char b[60000];void @c;};", "struct S{"+many(100, "int a#;")+"void @b;};", "struct S{@enum E a;int a;};")
	topsSay(t, 21, "struct S{int a;int @a;void b;};", "struct S{char a[60000];char @a[60000];};", "struct S{"+many(101, "int a#;")+"int @a0;};", "struct S{"+many(101, "int a#;")+"int @a0;void v;};")
	topsSay(t, 20, "struct S{int a;int a[@nil];};", "struct S{int a;int a2[@nil];int a;};")
	// Enumerations: the tag, then each name ahead of its expr.
	topsSay(t, 21, "enum E{A};@enum E{A};", "enum E{A};@enum E{B=nil};", "enum E{A,@A=nil};", "int a;enum E{@a=nil};", "enum E{A,@A=1/0};", "enum E{A,B=A,@A=nil,C=nil};")
	topsSay(t, 20, "enum E{A=@nil,A};", "enum E{A,B=@nil,A};", "enum E{A=1+@B,B};")
	topsSay(t, 27, "enum E{A=1@/0,A};", "int a;enum E{B=@a,a};")
	topsSay(t, 24, "void v(void){}enum E{@A=v(),A};", "void v(void){}int a;enum E{B,@C=v()};")
	// Typedefs and vars: the type, whether it may stand there, too much, the name, the init.
	topsSay(t, 20, "int a;typedef int a[@nil];", "int a;int a[@nil];", "int a;int a[@nil]={1/0};", "int a;int a(int(*)[@nil]);")
	topsSay(t, 22, "int a;typedef @enum E a;", "int a;void @a;", "int a;struct S @a={nil};", "int f(void){int a;void @a=nil;}", "int a;int a@[];", "int a;int f(void){int @a(void)=1;}", "int a;int f(void){int @f(void);}", "void @a=nil;")
	topsSay(t, 21, "int a;int @a=nil;", "int a;int @a={1};", "int a;char @a=1/0;", "int f(int a){int @a=nil;}", "int f(int a){int @a={1};}", "int a;int @a[]={nil};", "int a;struct S*@a=nil;")
	topsSay(t, 28, "int a;int @a(void)=nil;", "int f(void);char @f(void)=1;", "int @f(void)={1,nil};", "int a;int @a(void)={nil};")
	// Arrays: the elements, then that there is a size, then the size.
	topsSay(t, 22, "void a@[nil];", "struct S a@[0];", "int a[nil]@[];", "void a@[1/0];", "void a@[70000];", "int a@[nil](void);")
	topsSay(t, 27, "int a[@0][2];", "int a[2][@0];", "int a[nil][@0];", "int a[1/0][2@/0];")
	topsSay(t, 32, "int a[0]@[70000];", "int a[nil]@[15001];", "char a@[30000][3];")
	topsSay(t, 20, "int a[@nil][2];", "int a[nil][@nil2];", "int a[70000][@nil];")
	// Functions: the result's type and the params in order, then the node.
	topsSay(t, 22, "int f(void @a,struct S b);", "struct S f(void @a);", "int f(int[2],void @a)[2];", "int f(void @a,int,int,int,int,int,int,int,int);", "int f(int,int,int,int,int,int,int,int,@void,int);", "int f@(int,int,int,int,int,int,int,int,int)[2];", "@enum E f(void a);", "@enum E f(int a)[2];")
	topsSay(t, 32, "int f@(int,int,int,int,int,int,int,int,int a,int a);", "int f@(int,int,int,int,int,int,int,int,int){nil;}", "int putchar@(int,int,int,int,int,int,int,int,int);")
	topsSay(t, 20, "int f(int(*a)[@nil],void b);", "int f(int(*a)[@nil])[2];", "int(*f(int(*b)[nil2]))[@nil];")
	// Definitions: the type, the name, each param in order, the body.
	topsSay(t, 22, "int f;int f(void @a){}", "int f;struct S f@(int){}", "int f(@int,int a,int a){}", "int f(int a,@char,int a){}", "int f(@int){nil;}", "int f(int g(int),@int){}")
	topsSay(t, 21, "int f;int @f(int){}", "int f;int @f(int a,int a){}", "int f(void){}int @f(void){nil;}", "int f(int a,int @a,int){}", "int f(int a,int @a){nil;}", "int @putchar(int){}", "int f;int @f(void){nil;}", "int f(int a);int @f(int a,int a){}", "int f(int a){int @a=nil;}")
	// Typedefs.
	topsSay(t, 21, "int a;typedef void @a;", "int a;typedef int @a[2];")
	topsSay(t, 32, "int a;typedef int a@[15001];", "int a;int a@[15001];")
}

func TestOrderInStatements(t *testing.T) {
	// A case: its expr, that there is a switch, that it is a constant, that it is new; then its stmt.
	bodiesSay(t, 20, "case @nil:;", "case @nil:nil;", "switch(i)case @nil:nil;", "switch(i){case 1:;case @nil:;}")
	bodiesSay(t, 24, "@case s:;", "case p@*1:;", "switch(i)@case v():nil;")
	bodiesSay(t, 29, "@case i:;", "@case 1/0:nil;", "@case 1:nil;", "@default:nil;", "switch(i){case 1:;@case 1:nil;}", "switch(i){default:;@default:nil;}", "switch(i){case 1:@case 1:nil;}", "switch(i){default:@default:nil;}")
	bodiesSay(t, 27, "switch(i)case @i:nil;", "switch(i)case @i:case i:;", "switch(i){case 1:;case 1@/0:nil;}")
	bodiesSay(t, 20, "switch(i){case 1:@nil;case 1:;}", "switch(i){case 1:case 2:@nil;}", "switch(i){default:@nil;default:;}")
	// A switch of a pointer is told behind its stmt, and a label that is not new behind its own.
	bodiesSay(t, 20, "switch(p)@nil;", "switch(f){case 1:@nil;}", "x:;x:@nil;", "x:x:@nil;")
	bodiesSay(t, 29, "switch(p){case 1:;@case 1:;}", "switch(p){default:;@default:;}", "switch(p)@continue;", "@x:x:;", "@x:{x:;}", "x:;{@x:y:;}", "@x:{y:x:;}", "x:{@y:y:;}", "x:;y:{y2:;@x:;}")
	bodiesSay(t, 24, "@switch(p){case 1:;}nil;", "@switch(a){default:break;}goto x;")
	// The parts of a for in the order of the source.
	bodiesSay(t, 20, "for(@nil;nil2;nil3)nil4;", "for(;@nil;nil3)nil4;", "for(;;@nil)nil4;", "for(;;)@nil;", "for(int z=@nil;nil2;);")
	bodiesSay(t, 24, "@for(;s;s*1);", "for(;i;s@*1)nil;")
	bodiesSay(t, 20, "do @nil;while(nil2);", "while(@nil)nil2;", "if(@nil)nil2;else nil3;", "if(i)@nil;else nil3;", "if(i);else @nil;", "switch(@nil)nil2;")
	bodiesSay(t, 29, "if(i)@break;else nil;", "do switch(i)case 1:{@case 1:;}while(nil);")
}
