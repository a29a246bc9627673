package tests

import (
	"strconv"
	"testing"

	"loop.example/s01681/impl"
)

func TestWhereTypesMayStand(t *testing.T) {
	// A var's type must be complete.
	topsSay(t, 22, "void @a;", "struct S @a;", "union U @a;", "int f(void){void @a;return 0;}", "int f(void){struct S @a;return 0;}", "int f(void){for(void @a;;);return 0;}", "struct S *a,@b;", "struct S @a;struct S{int x;};", "void @a=1;", "struct S @a={1};", "void @a={x};", "int f(void){union U @a=1;return 0;}")
	topsSay(t, 0, "void*a;", "struct S*a;", "struct S{int a;};struct S b;", "struct S*a;struct S{int a;};struct S b;", "int f(void){struct S*a;return 0;}")
	// Elements must be complete.
	topsSay(t, 22, "void a@[2];", "struct S a@[2];", "int a@[2](void);", "int a[2]@[];", "int a[]@[]={{1}};", "int a@[];", "int a[2]@[][3];", "int(*a)@[];", "int*a@[];", "int f(void){int a@[];return 0;}", "int f(void){int a[2]@[];return 0;}", "void a@[];", "void a@[]={1};", "struct S{int a@[];};", "int f(int(*a)@[]){return 0;}", "int f(int a[2]@[]){return 0;}", "int f(int a[]@[]){return 0;}", "int*f(void a@[]){return 0;}", "int f(struct S a@[2]){return 0;}", "int f(int a@[](void)){return 0;}", "int a=sizeof(int@[]);", "int f(void){(int@[])0;return 0;}", "int a[sizeof(int@[])];", "int f@(void)[2];", "typedef int T@[];", "typedef void T@[2];", "int(*a)@[]={0};", "int(*f(void))@[];")
	topsSay(t, 0, "int a[2][3];", "int a[][2]={{1}};", "int(*a[2])(void);", "int f(int a[]){return*a;}", "int f(int a[][2]){return**a;}", "int f(int[],int*[]);int f(int*a,int**b){return 0;}", "int*a[]={0};", "int f(void){int a[]={1};return 0;}", "int(*f(void))[2]{return 0;}", "int f(int(*a)[2]){return a[0][1];}", "struct S*a[2];", "void*a[2];")
	// A param's size is not looked at.
	topsSay(t, 0, "int f(int a[x]){return*a;}", "int f(int a[0]){return*a;}", "int f(int a[-1],int b[1/0],int c[99999999],int d[f()]){return*a;}", "int f(int[\"\"]);int f(int*a){return 1;}")
	topsSay(t, 20, "int f(int a[x][@y]){return 0;}", "int f(int(*a)[@x]){return 0;}")
	topsSay(t, 27, "int f(int a[][@0]){return 0;}")
	// Results are void or scalar, params are scalar.
	topsSay(t, 22, "struct S{int a;};struct S f@(void);", "struct S f@(void);", "union U{int a;};union U f@(void){}", "int f@(void)(int);", "int f@(void)[3];", "int(*f)@(void)[3];", "typedef struct S T;T f@(int a);", "int f(void @a);", "int f(int a,void @b);", "int f(int a,@void);", "int f(@void,int);", "int f(struct S @s);", "struct S{int a;};int f(struct S @s){return 0;}", "union U{int a;};int f(@union U);", "int a=sizeof(int(*)(@struct S));", "int f(void){(int(*)(@void,int))0;return 0;}", "typedef void V;int f(int,V @v);")
	topsSay(t, 0, "struct S*f(struct S*a){return a;}", "void*f(void**a){return*a;}", "void(*f(void(*g)(int)))(int){return g;}", "int f(int g(int(int))){return 0;}", "typedef int A[2];typedef int F(A);int f(A a,F g){return g(a);}")
	// Fields.
	topsSay(t, 22, "struct S{void @a;};", "struct S{int a;struct T @t;};", "struct S{int @f(void);};", "union U{int a;void @b;};", "struct S{int a;int b@[];};", "struct S{int a,@f(int);};", "struct S{struct S @a;};", "struct S{int a;struct S b@[2];};")
	topsSay(t, 21, "struct S{int a;char @a;};", "struct S{int a,b,*@a;};", "union U{int a;int b;int @b;};", "struct S{int a;int(*@a)(int a);};")
	topsSay(t, 0, "struct S{int S,*s,(*f)(void),g[3];};", "struct S{int a;};union T{struct S a;struct S b[3];};", "struct A{int a;};struct B{int a;};", "int a;struct S{int a;};enum E{b};struct T{int b;};")
}

func TestSizesAtTheBound(t *testing.T) {
	bound := strconv.Itoa(impl.MaxObject)
	more := strconv.Itoa(impl.MaxObject + 1)
	topsSay(t, 0, "char a["+bound+"];", "int a[15000];", "short a[300][100];", "struct S{char a["+bound+"];};", "struct S{char a[59997];short b;};", "union U{char a["+bound+"];int b;};", "struct S{char a[30000];};struct S a[2];", "int f(void){char a["+bound+"],b["+bound+"];return 0;}", "char*a["+"15000];", "char a[3][20000];", "struct S{char a[59996];int b;};")
	topsSay(t, 32, "char a@["+more+"];", "int a@[15001];", "short a@[300][101];", "char a[2]@["+more+"];", "int a@[70000];", "int a@[4294967295];", "int a@[4294967295u];", "int a@[-1+0u];", "struct S{char a@["+more+"];};", "int f(void){int a@[15001];return 0;}", "int f(int a[2]@[15001]){return 0;}", "int a=sizeof(char@["+more+"]);", "typedef int T@[15001];", "int(*p)@[15001];", "int f(void){(int(*)@[15001])0;return 0;}", "char a@[2][30001];", "struct S{char a[30000];};struct S a@[3];", "char a@["+more+"]={1};", "char*a@[15001]={x};")
	topsSay(t, 32, "@struct S{char a["+bound+"];char b;};", "@struct S{char a[59999];short b;};", "@struct S{char a[59997];int b;};", "@struct S{char a["+bound+"],b["+bound+"],c["+bound+"];};", "@struct S{int a;char b["+bound+"];};", "@struct S{int a[15000];char b;};", "struct T{char a["+bound+"];};@struct S{struct T a,b;};", "@struct S{char a[59998];int*b;};")
	topsSay(t, 0, "union U{char a[59997];int b;};union U a[1];")
	// An array without a size has its init's place for what is too much.
	large := "struct S{char a[30000];};"
	topsSay(t, 0, large+"struct S a[]={{\"a\"},{{2}}};")
	topsSay(t, 32, large+"struct S a[]=@{{\"a\"},{{2}},{{3}}};", large+"int f(void){struct S a[]=@{{\"a\"},{{2}},{{3}}};return 0;}", "char a[][30000]=@{\"\",\"\",\"\"};")
	topsSay(t, 0, "char a[][30000]={\"\",\"\"};")
}

func TestConstants(t *testing.T) {
	gives := func(expr string, word int) {
		t.Helper()
		text := "enum E{A=7,B=-3,C};struct S{int a;char b;};int g;int f(int x){return x;}enum V{X=" + expr + "};int a=X,b=" + expr + ";unsigned c=" + expr + ";" + emptyMain
		w := strconv.Itoa(word)
		means(t, text, "(data g 4 4)\n(data a 4 4 (at 0 w "+w+"))\n(data b 4 4 (at 0 w "+w+"))\n(data c 4 4 (at 0 w "+w+"))\n(function f w (local 4 4 w 0) 1 (block (return (load w (local 0)))))\n"+emptyMainCore)
		// A case takes it as a word.
		means(t, "enum E{A=7,B=-3,C};struct S{int a;char b;};int g;int f(int x){return x;}int main(void){switch(1)case "+expr+":;}",
			"(data g 4 4)\n(function f w (local 4 4 w 0) 1 (block (return (load w (local 0)))))\n(function main w 0 (block (switch (num 1) (case "+w+" (block)))))\n")
	}
	for expr, word := range map[string]int{
		"0": 0, "1": 1, "4294967295": 4294967295, "0x80000000": 2147483648, "'a'": 97, "'\\377'": 4294967295, "A": 7, "B": 4294967293, "C": 4294967294, "sizeof(int)": 4, "sizeof g": 4, "sizeof(struct S)": 8, "sizeof f(1)": 4, "sizeof(1/0)": 4, "sizeof(g=1)": 4, "sizeof(char)": 1, "sizeof(g++,1)": 4, "sizeof(int*)": 4,
		"+5": 5, "-5": 4294967291, "-0": 0, "~0": 4294967295, "~5u": 4294967290, "!0": 1, "!7": 0, "!!7": 1, "-2147483648": 2147483648, "- -3": 3,
		"3*4": 12, "-3*4": 4294967284, "65536*65536": 0, "65535*65537": 4294967295, "7/2": 3, "-7/2": 4294967293, "-7/2u": 2147483644, "7%3": 1, "-7%3": 4294967295, "-7%3u": 0, "7u%4": 3, "(-2147483647-1)/-1": 2147483648, "(-2147483647-1)%-1": 0, "0/5": 0,
		"2147483647+1": 2147483648, "4294967295+1": 0, "0-1": 4294967295, "5-7u": 4294967294, "1<<31": 2147483648, "1<<0": 1, "3<<31": 2147483648, "-1>>31": 4294967295, "-1>>1": 4294967295, "-1+0u>>1": 2147483647, "4294967295>>31": 1, "-8>>1u": 4294967292, "0x80000000>>31u": 1, "1<<31>>31": 4294967295,
		"1<2": 1, "-1<0": 1, "-1<0u": 0, "2>1": 1, "-1>0u": 1, "1<=1": 1, "2<=1": 0, "1>=2": 0, "-1>=1u": 1, "-1<=4294967295": 1, "1==1": 1, "-1==4294967295": 1, "1!=1": 0, "0!=-1": 1, "2147483648>2147483647": 1,
		"12&10": 8, "12^10": 6, "12|3": 15, "-1&255": 255, "1&&2": 1, "1&&0": 0, "0||0": 0, "0||9": 1, "1?2:3": 2, "0?2:3": 3, "-1?1:0": 1, "1?-1:0u": 4294967295, "(1?-1:0u)>0": 1, "A?B:C": 4294967293,
		"(char)200": 4294967240, "(char)-1": 4294967295, "(char)256": 0, "(unsigned char)-1": 255, "(short)40000": 4294941760, "(unsigned short)-1": 65535, "(unsigned short)65537": 1, "(int)4294967295": 4294967295, "(int)4294967295<0": 1, "(unsigned)-1>0": 1, "(unsigned)-1/2": 2147483647, "(char)(unsigned char)255": 4294967295, "(unsigned char)(char)-1+1": 256, "(enum E)3": 3, "(signed char)128+0": 4294967168,
		"((((1))))": 1, "1+2*3-4/2%3|8^1&3<<2": 13,
	} {
		gives(expr, word)
	}
	for _, expr := range []string{
		"@g", "g@+1", "1@+g", "@-g", "@!g", "@~g", "&g@==0", "@*&g", "f@(1)", "\"x\"@[0]", "@(char)g", "g@?1:2", "1@?g:2", "1@?2:g", "0@?g:2", "0@&&g", "1@||g", "g@&&0", "(g@=1)", "g@++", "@++g", "(g@+=1)", "(1@,2)", "@(int)(1,2)", "1@/0", "1@%0", "1u@/0", "1u@%0", "1@/(2-2)", "1@<<32", "1@>>32", "1u@>>32", "1@<<-1", "1@>>4294967295", "1@<<32u", "1@?2:3/0", "0@?1<<32:1", "0@&&1/0", "1@||1%0", "@!(1/0)", "@(char)(1/0)", "1@+1/0", "@-(1/0)", "1/0@==0", "0@*(1/0)", "s@.a", "sp@->a", "sp@-sp", "sp@==0", "@!sp", "@sp", "sp@&&1", "sp@?1:2", "@f", "f@==0", "@(int)f(1)", "sizeof(int)@+g", "ga@[0]", "@*ga",
	} {
		head := "struct S{int a;};struct S s,*sp;int g,ga[2];int f(int x){return x;}"
		for _, c := range []string{"int z=#;", "enum Z{Z=#};", "int z[#];", "int z(void){switch(1){case #:;}return 0;}", "int z[2]={1,#};", "struct T{int a[#];};", "int z(void){int a[#];return 0;}", "int z=sizeof(char[#]);"} {
			text := head + replaceOnce(c, expr)
			topsSay(t, 27, text)
		}
	}
}

func replaceOnce(text, with string) string {
	for i := range text {
		if text[i] == '#' {
			return text[:i] + with + text[i+1:]
		}
	}
	return text
}

// The number of elements: the least and the greatest, with and without a sign.
func TestNumbersOfElements(t *testing.T) {
	topsSay(t, 27, "char a[@0];", "char a[@0u];", "char a[@-1];", "char a[-1@+1u];", "char a[@'\\0'];", "char a[@!1];", "char a[@(char)255];", "char a[@(char)-1];", "char a[@(short)-1];", "char a[@(int)4294967295];", "char a[@'\\377'];", "enum E{A=-5};char a[@A];", "enum E{A=4294967295};char a[@A];", "char a[1@-2];", "char a[-3@/2];", "char a[2@>3];", "char a[-2147483647@-1];", "char a[1@?-1:1];", "char a[@~0];", "char a[-1@>>1];", "char a[-7@%3];")
	topsSay(t, 32, "char a@[4294967295];", "char a@[0u-1];", "char a@[1?-1:0u];", "char a@[60001];", "char a@[2147483647];", "char a@[-7%3u+60001];", "char a@[-1+0u>>1];", "char a@[~0u];", "char a@[-2147483648];", "char a@[(unsigned short)-1];", "char a@[(unsigned)(char)-1];")
	topsSay(t, 0, "char a[1];", "char a[60000];", "char a['a'];", "char a[(unsigned char)-1];", "char a[1u];", "char a[-1>0u];", "enum E{A=5};char a[A][sizeof(int)];", "char a[1?1:-1];", "char a[-7%3u+1];")
	means(t, "char a[(unsigned char)-1],b['a'],c[-1>0u],d[sizeof a];"+emptyMain, "(data a 255 1)\n(data b 97 1)\n(data c 1 1)\n(data d 255 1)\n"+emptyMainCore)
}
