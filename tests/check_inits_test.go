package tests

import (
	"strconv"
	"strings"
	"testing"

	"loop.example/s01681/impl"
)

// dataMeans sees what the lines of globals are that a source has in front of a main.
func dataMeans(t *testing.T, text string, lines ...string) {
	t.Helper()
	core, code, line, col := check(t, text+emptyMain)
	want := ""
	for _, one := range lines {
		want += "(data " + one + ")\n"
	}
	front, _, _ := strings.Cut(core, "(function ")
	if code != 0 || front != want {
		t.Errorf("%q: %d, %d, %d,\n%s, not\n%s", text, code, line, col, front, want)
	}
}

func TestScalarsAtTheTop(t *testing.T) {
	dataMeans(t, "char a=200,b='a',c=(char)200,d=-1;", "a 1 1 (at 0 i8 4294967240)", "b 1 1 (at 0 i8 97)", "c 1 1 (at 0 i8 4294967240)", "d 1 1 (at 0 i8 4294967295)")
	dataMeans(t, "unsigned char a=300,b=-1;short c=40000,d=-2;unsigned short e=-1,f=65537;", "a 1 1 (at 0 u8 44)", "b 1 1 (at 0 u8 255)", "c 2 2 (at 0 i16 4294941760)", "d 2 2 (at 0 i16 4294967294)", "e 2 2 (at 0 u16 65535)", "f 2 2 (at 0 u16 1)")
	dataMeans(t, "int a=-1,b=4294967295,c;unsigned d=-1,e=0;", "a 4 4 (at 0 w 4294967295)", "b 4 4 (at 0 w 4294967295)", "c 4 4", "d 4 4 (at 0 w 4294967295)", "e 4 4 (at 0 w 0)")
	dataMeans(t, "int g;int*a=0;int*b=&g;void*c=&g,*d=(void*)0,*e=(int*)(char*)0;char*f=(char*)&g;int**h=&a;", "g 4 4", "a 4 4 (at 0 p 0 0)", "b 4 4 (at 0 p g 0)", "c 4 4 (at 0 p g 0)", "d 4 4 (at 0 p 0 0)", "e 4 4 (at 0 p 0 0)", "f 4 4 (at 0 p g 0)", "h 4 4 (at 0 p a 0)")
	dataMeans(t, "int f(int x);int(*a)(int)=f,(*b)(int)=&f,(*c)(int)=*f,(*d)(int)=0,(*e)(int)=(int(*)(int))f;int f(int x){return x;}int(**g)(int)=&a;", "a 4 4 (at 0 p f 0)", "b 4 4 (at 0 p f 0)", "c 4 4 (at 0 p f 0)", "d 4 4 (at 0 p 0 0)", "e 4 4 (at 0 p f 0)", "g 4 4 (at 0 p a 0)")
	topsSay(t, 27, "int b;int a=@b;", "int b;int a=@&b;", "int b[2];int a=@b;", "int f(void){return 1;}int a=f@();", "int a=@\"x\";", "int f(void){return 1;}int a=@f;", "char a=(1@,2);", "int a=@(int*)0;", "int a=1@/0;", "unsigned a=1@<<32;", "int b;char a=b@=1;", "int b[2];int a=b@-b;")
	topsSay(t, 28, "int*a=@1;", "int*a=@'a';", "enum E{A};int*a=@A;", "int*a=1@-1;", "int*a=@(int)0;", "int b;char*a=@&b;", "int*a=@\"x\";", "int f(void){return 1;}void*a=@f;", "int f(void){return 1;}int(*a)(int)=@f;", "void*w;int(*a)(void)=@w;", "int b[2];int(*a)[3]=@&b;", "int b[2][3];int*a=@b;", "struct S*s;union U*u=@s;", "int b;int*a=@b;", "int*a=1@+1;", "int*a=@-0;", "unsigned char*a=@\"\";", "int*a=@sizeof a;")
	topsSay(t, 28, "int a=@{1};", "int*a=@{0};", "char a=@{{1}};", "int a=@{x};", "struct S{int*a;};struct S a={@{0}};")
	topsSay(t, 27, "int*b;int*a=@b;", "int b;int*c=&b;int*a=c@+1;", "int f(void){return 1;}int*g(void){return 0;}int*a=g@();", "int b[2],i;int*a=b@+i;", "int b[2],i;int*a=@&b[i];", "int b;int*a=1@?&b:0;", "int b,c;int*a=(c@,&b);", "int*b[2];int*a=b@[0];", "int*b;int**c=&b;int*a=@*c;", "struct S{int*p;};struct S s;int*a=s@.p;", "int*a=(int*)0@+1;", "int*a=(int*)0@+0;", "int*a=@&((int*)0)[1];", "int b[2];int*a=b@+1/0;", "int b[2];int*a=b@+(1<<32);", "int*b;int*a=b@=0;", "int*b;int*a=b@++;", "int b;int*a=(int*)0@?&b:&b;", "char*a=1@?\"x\":\"y\";", "struct S{int a;struct S*n;};struct S s;int*a=@&s.n->a;")
}

func TestAddresses(t *testing.T) {
	dataMeans(t, "int b[3];int*a=b,*c=b+1,*d=1+b,*e=&b[3],*f=b+3-1,*g=&*b,*h=&b[1]+1-2,*i=b+sizeof(int)-2,*j=2+b-2;int(*k)[3]=&b,(*l)[3]=&b+1;",
		"b 12 4", "a 4 4 (at 0 p b 0)", "c 4 4 (at 0 p b 4)", "d 4 4 (at 0 p b 4)", "e 4 4 (at 0 p b 12)", "f 4 4 (at 0 p b 8)", "g 4 4 (at 0 p b 0)", "h 4 4 (at 0 p b 0)", "i 4 4 (at 0 p b 8)", "j 4 4 (at 0 p b 0)", "k 4 4 (at 0 p b 0)", "l 4 4 (at 0 p b 12)")
	dataMeans(t, "struct S{char a;int b[2];struct S*n;};struct S s[2];int*a=s[1].b,*b=&s->b[1];struct S*c=&s[1],*d=s+2;char*e=&s[1].a,*f=(char*)s+31,*g=(char*)(s+1)-3;void*h=&s[0].n;",
		"s 32 4", "a 4 4 (at 0 p s 20)", "b 4 4 (at 0 p s 8)", "c 4 4 (at 0 p s 16)", "d 4 4 (at 0 p s 32)", "e 4 4 (at 0 p s 16)", "f 4 4 (at 0 p s 31)", "g 4 4 (at 0 p s 13)", "h 4 4 (at 0 p s 12)")
	dataMeans(t, "char*a=\"abc\",*b=\"abc\"+4,*c=&\"xy\"[1],*d=3+\"abc\"-1;char(*e)[2]=&\"z\";", "a 4 4 (at 0 p $0 0)", `$0 4 1 (text 0 "abc\000")`, "b 4 4 (at 0 p $1 4)", `$1 4 1 (text 0 "abc\000")`, "c 4 4 (at 0 p $2 1)", `$2 3 1 (text 0 "xy\000")`, "d 4 4 (at 0 p $3 2)", `$3 4 1 (text 0 "abc\000")`, "e 4 4 (at 0 p $4 0)", `$4 2 1 (text 0 "z\000")`)
	dataMeans(t, "int b[4];int*a=b+-1+2,*c=b+4294967295u+1,*d=b-(-3),*e=b+10-8,*f=b-2+2,*g=(char)255+b+1;", "b 16 4", "a 4 4 (at 0 p b 4)", "c 4 4 (at 0 p b 0)", "d 4 4 (at 0 p b 12)", "e 4 4 (at 0 p b 8)", "f 4 4 (at 0 p b 0)", "g 4 4 (at 0 p b 0)")
	// Global names may be those of later ones; a function has no way to be moved.
	topsSay(t, 27, "int b[3];int*a=b@+4;", "int b[3];int*a=b@-1;", "int b[3];int*a=@&b[4];", "int b[3];int*a=@&b[-1];", "int b;int*a=&b@+2;", "int b;int*a=2@+&b;", "int b[3];char*a=(char*)b@+13;", "char*a=\"abc\"@+5;", "char*a=\"abc\"@-1;", "int b[3];int*a=b@+4294967295;", "int b[3];int*a=b@+1073741824;", "int b[3];int*a=b@+2147483648;", "int b[3];int*a=b@-2147483647;", "int b[3];int*a=b+4@+4;", "struct S{int a[2];};struct S s;int*a=@&s.a[3];", "struct S{int a[2];};struct S s;int*a=s.a@+3;", "int b[3][2];int*a=b[1]@+5;", "int a[]={1};int*b[]={a,a+1,a@+2};", "int b[15000];int(*a)[15000]=&b@+2147483647;")
	topsSay(t, 0, "int b[3][2];int*a=b[1]+4;", "int b[3][2];int*a=b[-1]+2;", "int b[3];int*a=b+100-99;", "struct S{int a,b;};struct S s;int*a=&s.a+2;", "char b[60000];char*a=b+60000;", "int b[3];int*a=&b[5]-5;")
}

func TestListsAtTheTop(t *testing.T) {
	dataMeans(t, "int a[3]={1,2,3},b[3]={1},c[]={7,8,},d[2][2]={{1,2},{3}},e[][2]={{1},{2,3},{4}};", "a 12 4 (at 0 w 1) (at 4 w 2) (at 8 w 3)", "b 12 4 (at 0 w 1)", "c 8 4 (at 0 w 7) (at 4 w 8)", "d 16 4 (at 0 w 1) (at 4 w 2) (at 8 w 3)", "e 24 4 (at 0 w 1) (at 8 w 2) (at 12 w 3) (at 16 w 4)")
	dataMeans(t, "struct S{char a;short b;int c[2];struct S*n;};struct S x={1,2,{3,4},0},y={5},z[2]={{1},{2,3,{4},&y}};struct S*w[]={&x,z+1};", "x 16 4 (at 0 i8 1) (at 2 i16 2) (at 4 w 3) (at 8 w 4) (at 12 p 0 0)", "y 16 4 (at 0 i8 5)", "z 32 4 (at 0 i8 1) (at 16 i8 2) (at 18 i16 3) (at 20 w 4) (at 28 p y 0)", "w 8 4 (at 0 p x 0) (at 4 p z 16)")
	dataMeans(t, "union U{char a;int b;};union U x={300};", "x 4 4 (at 0 i8 44)")
	dataMeans(t, "struct S{int a,b;};union U{struct S s;int c[3];};union U x={{1,2}},y[2]={{{3}}};struct T{union U u;int d;};struct T z={{{4}},5};", "x 12 4 (at 0 w 1) (at 4 w 2)", "y 24 4 (at 0 w 3)", "z 16 4 (at 0 w 4) (at 12 w 5)")
	topsSay(t, 28, "int a[2]=@{1,2,3};", "int a[2]=@1;", "int a[]=@1;", "int a[2][2]={{1},@{1,2,3}};", "int a[2][2]={{1},@2};", "int a[2][2]=@{{1},{2},{3}};", "struct S{int a,b;};struct S x=@{1,2,3};", "struct S{int a,b;};struct S x=@1;", "struct S{int a;};struct S y,x=@y;", "struct S{int a;};struct S x={@{1}};", "union U{int a,b;};union U x=@{1,2};", "union U{int a,b;};union U y,x=@y;", "union U{int a;};union U x={@{1}};", "int b[2],a[2]=@b;", "struct S{int a[2];};struct S x={@1};", "struct S{int a[2];};struct S x={@{1,2,3}};", "struct S{int a;};struct T{struct S s;};struct S s;struct T x={@s};", "int a[]={@{1}};", "int a[2]={1,@{2}};", "struct S{int a;};struct S a[]={{1},@{1,2}};", "struct S{int a;};struct S a[]={{1},@2};", "int*a[]={0,@{0}};")
	topsSay(t, 28, "int a[2]=@\"x\";", "short a[]=@\"x\";", "char*a[2]=@\"x\";", "char a[2][3]=@\"x\";", "struct S{char a;};struct S x=@\"x\";", "struct S{char a[2];};struct S x=@\"x\";", "union U{char a[2];};union U x=@\"x\";", "unsigned a[]=@\"x\";", "void*a[]=@\"x\";")
	topsSay(t, 0, "int a[1]={1};", "int a[2]={1,};", "struct S{int a,b;};struct S x={1,2};", "union U{int a,b;};union U x={1};")
	// Within a list a string stands for an array of char alone, else for a pointer.
	topsSay(t, 27, "char a[]={@\"x\"};", "char a[2]={1,@\"x\"};", "int a[]={@\"x\"};")
	topsSay(t, 28, "int*a[]={@\"x\"};")
	topsSay(t, 0, "char*a[]={\"x\"};", "char a[][2]={\"x\",\"yz\"};", "void*a[]={\"x\"};")
}

func TestStringsAtTheTop(t *testing.T) {
	dataMeans(t, `char a[]="",b[]="ab",c[2]="ab",d[3]="ab",e[5]="ab",f[1]="",g[1]="x",h[3]="";unsigned char i[]="x";`, `a 1 1 (text 0 "\000")`, `b 3 1 (text 0 "ab\000")`, `c 2 1 (text 0 "ab")`, `d 3 1 (text 0 "ab\000")`, `e 5 1 (text 0 "ab\000")`, `f 1 1 (text 0 "\000")`, `g 1 1 (text 0 "x")`, `h 3 1 (text 0 "\000")`, `i 2 1 (text 0 "x\000")`)
	dataMeans(t, `char a[]="\377\200\0\n\t\"\\é~";char*b="\x80\177";`, `a 11 1 (text 0 "\377\200\000\n\t\"\\\303\251~\000")`, `b 4 4 (at 0 p $0 0)`, `$0 3 1 (text 0 "\200\177\000")`)
	dataMeans(t, `char a[2][3]={"ab","xyz"},b[][2]={"p",{1,2},"qr"};struct S{int a;char b[3];};struct S c={1,"xyz"},d[]={{1,"x"}};`, `a 6 1 (text 0 "ab\000") (text 3 "xyz")`, `b 6 1 (text 0 "p\000") (at 2 i8 1) (at 3 i8 2) (text 4 "qr")`, `c 8 4 (at 0 w 1) (text 4 "xyz")`, `d 8 4 (at 0 w 1) (text 4 "x\000")`)
	dataMeans(t, `union U{char a[4];int b;};union U x={"abc"};char y[]=("q");`, `x 4 4 (text 0 "abc\000")`, `y 2 1 (text 0 "q\000")`)
	topsSay(t, 28, `char a[2]=@"abc";`, `char a[1]=@"ab";`, `unsigned char a[2]=@"abc";`, `char a[2][2]={"ab",@"abc"};`, `struct S{char a[1];};struct S x={@"ab"};`, `char a[2]=@"\0\0\0";`)
	topsSay(t, 0, `char a[2]="\0\0";`, `char a[3]="\0\0\0";`)
	longest := strings.Repeat("s", impl.MaxString)
	n := strconv.Itoa(impl.MaxString)
	dataMeans(t, `char a[]="`+longest+`";char b[`+n+`]="`+longest+`";`, "a "+strconv.Itoa(impl.MaxString+1)+` 1 (text 0 "`+longest+`\000")`, "b "+n+` 1 (text 0 "`+longest+`")`)
	topsSay(t, 28, "char b["+strconv.Itoa(impl.MaxString-1)+"]=@\""+longest+"\";")
	// Every byte, as an escape.
	for b := range 256 {
		escape := "\\" + strconv.FormatInt(int64(b+512), 8)[1:]
		dataMeans(t, `char a[1]="`+escape+`";`, "a 1 1 (text 0 "+impl.QuoteText(string([]byte{byte(b)}))+")")
	}
}

// localMeans sees what stands behind the (fresh 0) of one local of a function.
func localMeans(t *testing.T, decl string, local string, steps ...string) {
	t.Helper()
	core, code, line, col := check(t, aBody+"int main(void){"+decl+"}")
	_, core, _ = strings.Cut(core, "(function main w ")
	want := "(local " + local + ") 0 (block (block " + strings.Join(append([]string{"(fresh 0)"}, steps...), " ") + ")))\n"
	if code != 0 || core != want {
		t.Errorf("%q: %d, %d, %d,\n%s, not\n%s", decl, code, line, col, core, want)
	}
}

func TestLocalsWithInits(t *testing.T) {
	localMeans(t, "int x;", "4 4 w 0")
	localMeans(t, "int x=1;", "4 4 w 0", "(do (store w (local 0) (num 1)))")
	localMeans(t, "int x=gc;", "4 4 w 0", "(do (store w (local 0) (load i8 (global gc))))")
	localMeans(t, "char x=gi;", "1 1 i8 0", "(do (store i8 (local 0) (conv i8 (load w (global gi)))))")
	localMeans(t, "char x=gc;", "1 1 i8 0", "(do (store i8 (local 0) (load i8 (global gc))))")
	localMeans(t, "unsigned short x=gu;", "2 2 u16 0", "(do (store u16 (local 0) (conv u16 (load w (global gu)))))")
	localMeans(t, "int*x=0;", "4 4 p 0", "(do (store p (local 0) (null)))")
	localMeans(t, "int*x=ga;", "4 4 p 0", "(do (store p (local 0) (global ga)))")
	localMeans(t, "int(*x)(int)=f;", "4 4 p 0", "(do (store p (local 0) (func f)))")
	localMeans(t, "char*x=\"q\";", "4 4 p 0", "(do (store p (local 0) (global $0)))")
	localMeans(t, "struct S x=gs;", "12 4 m 1", "(do (copy 12 (local 0) (global gs)))")
	localMeans(t, "struct S x=x;", "12 4 m 1", "(do (copy 12 (local 0) (local 0)))")
	localMeans(t, "struct S x=gt[1];", "12 4 m 1", "(do (copy 12 (local 0) (add 12 (global gt) (num 1))))")
	localMeans(t, "struct S x={1};", "12 4 m 1", "(zero 12 (local 0))", "(do (store w (local 0) (num 1)))")
	localMeans(t, "struct S x={gi,2,&x};", "12 4 m 1", "(zero 12 (local 0))", "(do (store w (local 0) (load w (global gi))))", "(do (store i8 (add 1 (local 0) (num 4)) (conv i8 (num 2))))", "(do (store p (add 1 (local 0) (num 8)) (local 0)))")
	localMeans(t, "union U x={5};", "4 4 m 1", "(zero 4 (local 0))", "(do (store w (local 0) (num 5)))")
	localMeans(t, "int x[3]={1,gi};", "12 4 m 1", "(zero 12 (local 0))", "(do (store w (local 0) (num 1)))", "(do (store w (add 1 (local 0) (num 4)) (load w (global gi))))")
	localMeans(t, "int x[]={f(1),2};", "8 4 m 1", "(zero 8 (local 0))", "(do (store w (local 0) (call f (num 1))))", "(do (store w (add 1 (local 0) (num 4)) (num 2)))")
	localMeans(t, "char x[2][2]={{1},\"ab\"};", "4 1 m 1", "(zero 4 (local 0))", "(do (store i8 (local 0) (conv i8 (num 1))))", "(do (store i8 (add 1 (local 0) (num 2)) (num 97)))", "(do (store i8 (add 1 (local 0) (num 3)) (num 98)))")
	localMeans(t, "char x[4]=\"a\";", "4 1 m 1", "(zero 4 (local 0))", "(do (store i8 (local 0) (num 97)))", "(do (store i8 (add 1 (local 0) (num 1)) (num 0)))")
	localMeans(t, "char x[1]=\"a\";", "1 1 m 1", "(zero 1 (local 0))", "(do (store i8 (local 0) (num 97)))")
	localMeans(t, "char x[]=\"\";", "1 1 m 1", "(zero 1 (local 0))", "(do (store i8 (local 0) (num 0)))")
	localMeans(t, "char x[]=\"\\377\\200\\177\";", "4 1 m 1", "(zero 4 (local 0))", "(do (store i8 (local 0) (num 4294967295)))", "(do (store i8 (add 1 (local 0) (num 1)) (num 4294967168)))", "(do (store i8 (add 1 (local 0) (num 2)) (num 127)))", "(do (store i8 (add 1 (local 0) (num 3)) (num 0)))")
	localMeans(t, "unsigned char x[]=\"\\377\\200\";", "3 1 m 1", "(zero 3 (local 0))", "(do (store u8 (local 0) (num 255)))", "(do (store u8 (add 1 (local 0) (num 1)) (num 128)))", "(do (store u8 (add 1 (local 0) (num 2)) (num 0)))")
	localMeans(t, "struct S x[2]={{1},{2,3}};", "24 4 m 1", "(zero 24 (local 0))", "(do (store w (local 0) (num 1)))", "(do (store w (add 1 (local 0) (num 12)) (num 2)))", "(do (store i8 (add 1 (local 0) (num 16)) (conv i8 (num 3))))")
	// Exprs of any kind, also gone into by names of its own.
	bodiesSay(t, 0, "int z[2]={i++,f(z[0])};", "int z=(i,c);", "struct S z={s.a,un.b,&z};", "int*z[]={p,0,a,w};", "char*z[3]={\"a\",cp};", "union U z=un;", "union U z={u};", "int z[2][3]={{i},{1,2,3}};")
	bodiesSay(t, 24, "int z=@p;", "int*z=@1;", "int*z=@cp;", "int z=@s;", "int z=v@();", "struct S z=@1;", "struct S z=@o;", "struct S z=@un;", "struct S z=@sp;", "struct S z=v@();", "union U z=@s;", "union U z=@0;", "struct S z=@\"x\";", "int z[2]={1,@p};", "struct S z={@p};", "int*z[]={0,@i};", "int*z[]={@Z};", "char z[]={@\"x\"};", "int(*z)(int)=@fp2;", "int(*z)(int)=@w;", "void*z=@f;", "int z[2][2]={{1,@p}};", "struct S z=(s@=s);")
	bodiesSay(t, 28, "int z=@{1};", "int*z=@{0};", "int z[2]=@{1,2,3};", "int z[]=@i;", "int z[3]=@a;", "A3 z=@a;", "char z[2]=@\"abc\";", "int z[]=@\"x\";", "struct S z=@{1,2,0,4};", "struct S z={@{1}};", "union U z=@{1,2};", "struct S z[2]={@s};", "struct S z[]={{1},@s};", "int z[2][2]={{1},@2};", "struct S z[1]=@{{1},{2}};", "char z[2]=@cp;", "char z[]=@'a';", "char z[]=@0;")
	topsSay(t, 0, "int f(void){for(int a[]={1,2};;);return 0;}", "struct S{int a;};int f(struct S*p){for(struct S s=*p;;);return 0;}")
	topsSay(t, 28, "struct S{int a;};struct T{struct S s;};int f(struct S*p){struct T t={@*p};return 0;}", "int f(void){for(int a=@{1};;);return 0;}")
}

// What does not fit is found ahead of any expr.
func TestWhatDoesNotFitComesFirst(t *testing.T) {
	topsSay(t, 28, "int a[2]=@{x,y,z};", "int a[2][2]={{x},@{1,2,3}};", "int a[2]={x,@{1}};", "struct S{int a;int b[2];};struct S x={y,@1};", "char a[2][2]={{x},@\"abc\"};", "int*a[2]={1,@{0}};", "int a[2]={1/0,@{1}};", "int f(void){int a[2]={x,@{1}};return 0;}", "int f(void){int a[2]=@{x,1,2};return 0;}", "int a[1]=@x;", "struct S{int a;};struct S s=@x;", "int f(void){int a[2]=@x;return 0;}", "int a=@{x};", "union U{int a;};union U u=@{x,y};", "void v(void){}int a[2]={v(),@{1}};")
	topsSay(t, 20, "int a[2]={@x,y};", "int a[2]={1,@y};", "int*a[2]={@x,1};", "struct S{int a;};int f(void){struct S s=@x;return 0;}")
	// Of those that do not fit, kids come ahead of their list.
	topsSay(t, 28, "int a[1][1]={@{1,2},{3}};", "int a[1][1]=@{{1},{2,3}};", "int a[1][1]={@2,3};", "struct S{int a;};struct S s={@{1},2};", "union U{int a;};union U u={@{1},2};", "int a[2][1]={@1,2};", "int a[2][1]={@{1,2},3};")
	topsSay(t, 28, "struct S{char a[30000];};struct S a[]={{{1}},@1,{{2}}};")
	topsSay(t, 32, "struct S{char a[30000];};struct S a[]=@{{{x}},{{1}},{{2}}};")
	// Of one scalar: first its own errors, then that it is none, then what is given, then that it is known.
	topsSay(t, 20, "int*a=1+@x;")
	topsSay(t, 28, "int b[2];char*a=b@+5;", "int b;char*a=@&b;", "int*b;char*a=@b;", "int i;int*a=@i;")
	topsSay(t, 28, "int*a[]={@1,x};", "int b;char*a[]={@&b,1/0};")
	topsSay(t, 27, "int a[]={1@/0,x};", "int*b;int*a[]={@b,1};", "int b;int*a[]={&b@+9,1};")
}
