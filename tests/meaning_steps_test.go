package tests

import (
	"strings"
	"testing"

	"loop.example/s01681/impl"
)

func TestLoops(t *testing.T) {
	tops := "int w(int c){putchar(c);return c;}int n;"
	for _, c := range []struct {
		value     int
		out, text string
	}{
		{3, "012", "int i=0;while(i<3)putchar('0'+i++);return i;"}, {0, "", "while(0)putchar('a');return 0;"}, {0, "a", "do putchar('a');while(0);return 0;"}, {3, "012", "int i=0;do putchar('0'+i);while(++i<3);return i;"}, {3, "012", "int i;for(i=0;i<3;i++)putchar('0'+i);return i;"}, {5, "", "int i;for(i=5;i<3;i++)putchar('0'+i);return i;"}, {9, "", "int i=9;for(;;)return i;"}, {2, "ab", "int i=0;for(;;i++){if(i==2)break;putchar('a'+i);}return i;"},
		// Tests, rounds and thirds in their order.
		{0, "tatbt", "int i=0;while(w('t')&&i<2)w('a'+i++);return 0;"}, {0, "atbt", "int i=0;do w('a'+i++);while(w('t')&&i<2);return 0;"}, {0, "itantbnt", "int i=0;for(w('i');w('t')&&i<2;w('n'))w('a'+i++);return 0;"},
		// break and continue.
		{0, "02", "int i;for(i=0;i<3;i++){if(i==1)continue;putchar('0'+i);}return 0;"}, {0, "0t2t", "int i=0;do{if(i==1)continue;putchar('0'+i);if(i==2)break;putchar('t');}while(i++<3);putchar('t');return 0;"}, {0, "tattc", "int i=0;while(w('t')){i++;if(i==2)continue;w('a'+i-1);if(i>2)break;}return 0;"}, {0, "tantbnt", "int i=0;for(;w('t')&&i<2;w('n')){w('a'+i++);continue;w('x');}return 0;"}, {1, "ta", "int i=0;for(;w('t');w('n')){w('a'+i++);break;}return i;"}, {2, "", "int i=2;while(i){break;i=0;}return i;"}, {0, "aa", "int i=2;do{i--;w('a');continue;w('b');}while(i);return 0;"},
		// In one another.
		{0, "012021", "int i,j;for(i=0;i<3;i++){if(i==1)continue;for(j=0;j<3;j++){if(j==i)continue;w('0'+i);w('0'+j);if(j>i)break;}}return 0;"}, {0, "ab.ab.", "int i=0;while(i<2){int j=0;do{w('a'+j);}while(++j<2);i++;w('.');}return 0;"}, {6, "", "int i,j,k=0;for(i=0;i<3;i++){j=0;while(1){if(j++==2)break;k++;}}return k;"}, {4, "", "int i=0,j;do{for(j=0;;j++)if(j==i)break;if(j==3)break;}while(++i<9);return i+1;"},
		{3, "", "int i=0;while(1){switch(i){case 3:break;default:i++;continue;}break;}return i;"}, {7, "", "int i=0;for(;;){switch(i++){case 6:break;default:continue;}return i;}"}, {2, "xx", "int i=0;do{switch(i){case 0:case 1:w('x');continue;}}while(i++<1);return i;"},
		// Pointers as tests.
		{3, "", "int a[3],*p=a;int k=0;while(p){k++;p=k<3?p+1:0;}return k;"}, {2, "", "char*s=\"ab\";int k=0;for(;*s;s++)k++;return k;"}, {1, "", "int*p=0;int k=0;do k++;while(p);return k;"}, {5, "", "int*p=0;if(p)return 4;else return 5;"}, {4, "", "int x,*p=&x;if(p)return 4;return 5;"},
		{2, "", "if(0)return 1;else if(1)return 2;else return 3;"}, {3, "", "if(1)if(0)return 2;else return 3;return 4;"}, {4, "", "if(0);else;if(1);else return 1;return 4;"}, {8, "", "int i=1;if(-1)i=8;return i;"},
		// A scope's locals.
		{0, "321", "int i=1;{int i=2;{int i=3;w('0'+i);}w('0'+i);}w('0'+i);return 0;"}, {3, "012", "int k=7;for(int i=0;i<3;i++){int k=i;w('0'+k);}return k-4;"},
	} {
		exits(t, c.value, c.out, tops+"@"+c.text)
	}
}

func TestSwitches(t *testing.T) {
	// For each of these the bytes that are written for 0 to 5.
	for _, c := range []struct{ body, out string }{
		{"case 1:w('1');break;case 3:w('3');break;default:w('d');", "d 1 d 3 d d"}, {"case 1:w('1');case 3:w('3');default:w('d');", "d 13d d 3d d d"}, {"default:w('d');case 3:w('3');case 1:w('1');", "d31 1 d31 31 d31 d31"}, {"case 3:w('3');default:w('d');case 1:w('1');break;", "d1 1 d1 3d1 d1 d1"}, {"case 1:w('1');", " 1    "}, {"w('x');", "     "}, {"default:w('d');", "d d d d d d"}, {"case 5:case 0:w('z');", "z     z"}, {"case 0:case 1:case 2:default:w('d');break;case 4:w('4');", "d d d d 4 d"},
		// Within other steps.
		{"if(0){case 1:w('1');}else{case 2:w('2');}", " 1 2   "}, {"if(1)case 1:w('1');else case 2:w('2');w('e');", " 1e 2e   "}, {"{{case 1:w('1');}w('i');}w('o');case 2:w('2');", " 1io2 2   "}, {"while(k<5){case 2:w('2');k+=2;}w('e');", "  22e   "}, {"do{case 2:w('2');k+=2;}while(k<5);w('e');", "  22e   "}, {"for(w('b');k<7;w('n')){case 2:w('2');k+=2;case 4:w('4');k++;}w('e');", "  24n24ne  4n24ne "}, {"for(;;){case 2:w('2');break;}w('e');", "  2e   "}, {"while(0){case 1:w('1');continue;case 2:w('2');}w('e');", " 1e 2e   "}, {"do{case 3:w('3');continue;w('x');}while(k++<4);", "   33  "}, {"lab:case 2:w('2');if(k++<3)goto lab;", "  22   "}, {"case 1:lab:case 2:w('2');", " 2 2   "},
		// One within another.
		{"case 1:switch(k+1){case 2:w('a');break;case 1:w('b');}w('c');break;case 2:switch(k){case 3:w('d');default:w('e');}w('f');case 3:w('g');", " ac efg g  "}, {"switch(9){case 1:w('1');default:w('d');case 2:w('2');}w('o');", "     "}, {"switch(k){case 4:w('x');}case 4:w('4');", "    4 "}, {"default:switch(k){case 1:w('1');break;case 2:w('2');}case 9:w('9');", "9 19 29 9 9 9"},
	} {
		want := strings.Split(c.out, " ")
		for k := range 6 {
			exits(t, 0, want[k], fill("int w(int c){return putchar(c);}@int k=#;switch(k){"+c.body+"}return 0;", k))
		}
	}
	exits(t, 4, "", "switch(-1){case 4294967295:return 4;}return 5;")
	exits(t, 4, "", "char c=-1;switch(c){case-1:return 4;}return 5;")
	exits(t, 5, "", "unsigned char c=-1;switch(c){case-1:return 4;case 255:return 5;}return 6;")
	exits(t, 4, "", "unsigned u=-1;switch(u){case-1:return 4;}return 5;")
	exits(t, 1, "", "switch(1)case 1:return 1;return 2;")
	exits(t, 2, "", "switch(2)case 1:return 1;return 2;")
	exits(t, 3, "", "enum E{A,B=7};@switch(7){case A:return 2;case B:return 3;}return 4;")
	exits(t, 9, "", "int i=0;switch(i++){case 1:return 8;case 0:return 8+i;}return 4;")
	exits(t, 7, "", "switch(0){int k;case 0:k=7;return k;}return 4;")
	undefined(t, "switch(0){int k=5;case 0:return k;}return 4;")
	// The word is come to once, ahead of all.
	exits(t, 3, "s1", "int w(int c){putchar(c);return c;}@switch(w('s')-114){case 1:w('1');case 2:return 3;}return 4;")
}

func TestGotos(t *testing.T) {
	for _, c := range []struct {
		value     int
		out, text string
	}{
		{3, "", "goto l;return 1;l:return 3;"}, {3, "xxx", "int i=0;back:if(i<3){w('x');i++;goto back;}return i;"}, {2, "", "int i=0;a:i++;if(i<2)goto a;return i;"}, {0, "cab", "goto c;a:w('a');goto b;c:w('c');goto a;b:w('b');return 0;"}, {0, "ae", "w('a');goto l;l:w('e');return 0;"}, {4, "", "goto l;{return 3;}l:m:n:return 4;"}, {5, "", "goto n;l:return 4;m:goto l;n:return 5;"},
		// Out of blocks, loops and switches.
		{2, "", "int i,j;for(i=0;i<5;i++)for(j=0;j<5;j++)if(i+j==2)goto out;out:return i*10+j;"}, {7, "", "while(1){do{for(;;){switch(1){case 1:{{goto out;}}}}}while(1);}out:return 7;"}, {1, "ab", "{w('a');goto l;}w('x');{l:w('b');}return 1;"}, {6, "", "switch(1){case 1:goto two;two:return 6;}return 4;"},
		// Into blocks, ifs, loops and switches.
		{3, "ab", "goto l;{w('x');l:w('a');w('b');}return 3;"}, {3, "b", "goto l;if(1){w('a');}else{w('x');l:w('b');}return 3;"}, {3, "ac", "goto l;if(0){w('x');l:w('a');}else w('b');w('c');return 3;"}, {3, "e", "goto l;if(w('x')){}else l:w('e');return 3;"},
		{9, "3579", "int n=3;goto in;while(n<9){n+=2;in:w('0'+n);}return n;"}, {3, "bab", "int n=1;goto in;do{w('a');in:w('b');}while(n++<2);return n;"}, {3, "bnabnabn", "int n=0;goto in;for(w('i');n<3;w('n')){w('a');in:w('b');n++;}return n;"}, {1, "b", "int n=0;goto in;for(w('i');n<3;w('n')){w('a');in:w('b');n++;break;}return n;"}, {3, "bnbnbn", "int n=0;goto in;for(w('i');n<3;w('n')){in:w('b');n++;continue;}return n;"}, {1, "b", "goto in;while(0){w('a');in:w('b');}return 1;"}, {1, "b", "goto in;while(0){w('a');in:w('b');continue;}return 1;"}, {1, "b", "goto in;do{w('a');in:w('b');break;}while(1);return 1;"},
		{5, "zd", "goto in;switch(w('x')){case 1:w('1');in:w('z');default:w('d');}return 5;"}, {5, "z", "goto in;switch(w('x')){case 1:w('1');in:w('z');break;default:w('d');}return 5;"}, {5, "", "goto in;switch(9)in:;return 5;"},
		// Deep inwards, out of one loop into another, and round and round.
		{4, "qrqr", "int i=0,j=0;goto in;for(i=0;i<2;i++){while(j<2){j++;{if(0){in:w('q');}else w('q');}w('r');break;}if(i)break;}return 4;"}, {0, "abcdbcdcd", "int i=0;while(1){w('a');l:w('b');m:w('c');while(1){w('d');if(i==0){i++;goto l;}if(i==1){i++;goto m;}return 0;}}"}, {0, "0.1.2.", "int i=0;for(;i<3;i++){w('0'+i);goto in;while(0){in:w('.');}}return 0;"}, {0, "01i23i", "int k=0;again:while(k<4){w('0'+k++);if(k&1)continue;goto out;in:break;}return 0;out:w('i');if(k<4)goto again;goto in;"}, {6, "", "int k=0;goto b;a:k+=1;goto c;b:k+=2;goto a;c:k+=3;return k;"},
		// A label with the name of something else, a case within a label, a label within a case.
		{3, "", "int l=3;goto l;return 1;l:return l;"}, {2, "", "switch(1){l:case 1:return 2;}"}, {2, "", "switch(1){case 1:l:return 2;}"}, {8, "", "int i=0;switch(2){case 1:l:i+=5;break;case 2:i+=3;goto l;}return i;"},
		// Locals that are jumped over and come to again.
		{5, "", "int i=0;{int k=5;if(i)return k;i=1;goto l;l:return k;}"}, {6, "", "goto l;{int k;l:k=6;return k;}"}, {1, "", "int n=0;l:{int k=n;n++;if(n<2)goto l;return k;}"},
		// An expression without end in front.
		{3, "", "goto l;for(;;);l:return 3;"},
	} {
		exits(t, c.value, c.out, "int w(int c){putchar(c);return c;}@"+c.text)
	}
	undefined(t, "goto l;{int k=5;l:return k;}", "int i=0;l:{int k;if(i)return k;k=1;i=1;goto l;}")
	// Each function has labels of its own.
	exits(t, 12, "", "int f(int n){if(n)goto l;return 1;l:return 2;}@goto l;l:return f(0)*10+f(1);")
	exits(t, 3, "", "int f(int n){if(n==3)goto l;return f(n+1);l:return n;}@return f(0);")
}

// counts sees how many steps a program takes.
func counts(t *testing.T, steps int, text string) {
	t.Helper()
	for _, fuel := range []int{steps, steps + 1, steps + 100} {
		if o := mean(t, whole(text), "", fuel); o.End != impl.EndExit || o.Steps != steps {
			t.Errorf("%q with %d: end %d after %d, not %d", text, fuel, o.End, o.Steps, steps)
		}
	}
	if o := mean(t, whole(text), "", steps-1); o.End != impl.EndFuel || o.Steps != steps-1 || o.Value != 0 {
		t.Errorf("%q with one too few: %v", text, o)
	}
}

// Each kind of value: beside the block of main, a do, and each value in the expr.
func TestStepsOfValues(t *testing.T) {
	tops := "int x,y,a[4],*p=a;char c;struct S{int m,n;};struct S s,u;struct B{char b;};struct B b1,b2;struct F{char b[5];};struct F f1,f2;struct E{char b[8];};struct E e1,e2;struct Q{short q[2];};struct Q q1,q2;int f(int i){return i;}void v(void){}int g(void){return 3;}int(*h)(int)=f;"
	for expr, steps := range map[string]int{
		"1": 1, "'a'": 1, "\"s\"": 1, "x": 2, "a": 1, "f": 1, "p": 2, "*p": 3, "p[2]": 5, "a[1]": 4, "&a[1]": 3, "s": 1, "s.m": 2, "s.n": 4, "&s.n": 3, "(&s)->n": 4,
		"x=1": 3, "p=0": 3, "p=a": 3, "x=y": 4, "x=y=1": 5, "c=1": 4, "c=c": 4, "x+1": 4, "-x": 4, "~x": 4, "!x": 4, "+x": 2, "!p": 4, "(char)x": 3, "(int)x": 2, "(void)1": 3, "x<y": 5, "p+1": 4, "1+p": 4, "(p+1)-1": 6, "p-a": 4, "p==a": 4, "p==0": 4, "sizeof x": 1,
		"x++": 3, "--x": 3, "x+=2": 3, "x+=y": 4, "p++": 3, "p+=1": 3, "c++": 3, "a[1]++": 5, "1,2": 3, "1,2,3": 5, "x?1:2": 4, "1?2:3": 3, "0?2:3": 3, "1&&2": 3, "0&&2": 2, "1||2": 2, "0||2": 3, "p&&1": 6, "0||0||3": 5,
		"f(1)": 2 + 1 + 4, "g()": 1 + 3, "v()": 1 + 1, "h(1)": 4 + 1 + 4, "(&f)(1)": 3 + 1 + 4, "f(f(1))": 1 + 2 + 5 + 5, "f(g())": 1 + 1 + 3 + 5,
		"s=u": 3 + 2, "b1=b2": 3 + 1, "f1=f2": 3 + 2, "e1=e2": 3 + 2, "q1=q2": 3 + 1, "(q1=q2,1)+(q2=q1,2)": 1 + (1 + 4 + 1) + (1 + 4 + 1), "putchar(65)": 2, "getchar()": 1, "putchar(getchar())": 2,
	} {
		counts(t, 4+steps, tops+"@"+expr+";return 0;")
		// As a whole main's result, an init and a test, when it has a value.
		counts(t, 2+4+steps, tops+"@{{"+expr+";}}return 0;")
	}
	counts(t, 2+2, "exit(1);for(;;);")
	counts(t, 2+6, "exit(1+2*3);")
}

func TestStepsOfSteps(t *testing.T) {
	for text, steps := range map[string]int{
		"": 1, ";": 2, "{}": 2, "{;}": 3, "{{}}{}": 4, "1;": 3, "return 1;": 3, "return 1;2;": 3,
		"if(1)2;": 5, "if(0)2;": 3, "if(1)2;else 3;": 5, "if(0)2;else;": 4, "if(0)2;else 3;": 5,
		"while(0);": 3, "while(1)break;": 4, "int i=2;while(i--);": 9 + 1 + 3*3 + 2*1, "do;while(0);": 4, "do break;while(0);": 3, "do continue;while(0);": 4, "int i=2;do;while(--i);": 9 + 1 + 2*1 + 2*3,
		"for(;0;);": 4, "for(1;0;2);": 5, "for(;;)break;": 5, "int i;for(i=0;i<2;i++);": 5 + 1 + 4 + 3*4 + 2*(1+4), "for(;;){break;}": 6, "int i=0;for(;;i=1){if(i)break;continue;}": 9 + 2 + (1 + 5 + 4) + (1 + 5),
		"switch(1){}": 3, "switch(1);": 3, "switch(1){2;}": 3, "switch(1){case 1:;}": 6, "switch(1)case 1:;": 5, "switch(1)default:;": 5, "switch(1){case 2:;}": 3, "switch(1){2;{3;case 1:4;}5;}": 3 + 3 + 2 + 2, "switch(1){case 1:case 2:;}": 7, "switch(2){case 1:case 2:;}": 7, "switch(2){case 1:break;case 2:break;}": 6, "switch(2){case 1:;default:;}": 6, "switch(1){case 1:;default:;}": 8, "switch(1)while(0)case 1:;": 3 + 2 + 1 + 1, "switch(1)for(9;0;9)case 1:;": 3 + 2 + 1 + 2 + 1, "switch(1)do case 1:;while(0);": 3 + 2 + 1 + 1, "switch(1)if(9)case 1:;": 3 + 2 + 1, "switch(1)if(9);else case 1:;": 3 + 2 + 1, "switch(1)switch(9)case 9:;": 3, "switch(1){switch(2){default:;}case 1:;}": 6, "switch(1)lab:case 1:;": 3 + 2 + 1,
		"l:;": 3, "l:m:;": 4, "goto l;l:;": 2 + 2 + 1, "goto l;1;l:;": 2 + 2 + 1, "goto m;l:m:;": 2 + 3 + 1, "goto l;{l:;}": 2 + 3 + 1, "goto l;{{l:;}}": 2 + 4 + 1, "goto l;{1;{2;l:3;}4;}5;": 2 + 4 + 2 + 2 + 2, "goto l;if(9)l:;": 2 + 3 + 1, "goto l;if(9);else l:;": 2 + 3 + 1, "goto l;while(0)l:;": 2 + 3 + 1 + 1, "goto l;do l:;while(0);": 2 + 3 + 1 + 1, "goto l;for(9;0;9)l:;": 2 + 3 + 1 + 2 + 1, "goto l;switch(9)l:;": 2 + 3 + 1, "goto l;switch(9)case 9:l:;": 2 + 4 + 1, "goto l;while(0){l:break;}": 2 + 4 + 1, "{{{goto l;}}}l:;": 4 + 1 + 2 + 1, "while(1){goto l;}l:;": 3 + 1 + 1 + 2 + 1, "{goto l;l:;}": 3 + 3 + 1,
		// Locals: the call counts them, and their fresh counts 1 and as much again; zero too.
		"int i;": 1 + 1 + 1 + 2, "char c;": 1 + 1 + 1 + 2, "char c[4];": 5, "char c[5];": 2 + 1 + 1 + 3, "char c[8];": 2 + 1 + 1 + 3, "char c[9];": 3 + 2 + 4, "short s[3];": 2 + 2 + 3, "int a[5];": 5 + 2 + 6, "int i,j;": 2 + 1 + 2*3, "{int i;}{int j;}": 2 + 1 + 2*4, "if(0){int i;}": 1 + 1 + 2, "int i=7;": 1 + 2 + 2 + 4, "char c[1]={0};": 1 + 2 + 2 + (1 + 1 + 1) + 5, "int a[1]={0};": 1 + 2 + 2 + (1 + 1 + 1) + 4, "int a[2]={0};": 2 + 2 + 3 + (1 + 1 + 2) + 4, "char c[5]={0};": 2 + 2 + 3 + (1 + 1 + 2) + 5, "int i;goto l;{int j;l:;}": 2 + 1 + 3 + 1 + 3 + 1,
	} {
		counts(t, steps, text)
	}
	// Params of each size, and locals of several.
	counts(t, 4+1+1, "void f(int c){}@f(1);")
	counts(t, 5+1+1, "void f(char c){}@f(1);")
	counts(t, 6+3+1, "void f(int a,int b,int c){}@f(1,2,3);")
	counts(t, 4+(1+3+15000)+1+(2+3)+(2+15000), "void f(int a){char b[9];int c[15000];}@f(1);")
	counts(t, 4+(1+3+15000)+1+2, "void f(int a){while(0){char b[9];int c[15000];}}@f(1);")
}

func TestDepth(t *testing.T) {
	for _, c := range []struct {
		depth int
		text  string
	}{
		{1, "return 0;"}, {1, "putchar(65);getchar();return 0;"}, {1, "exit(3);"}, {2, "void f(void){}@f();f();f();return 0;"}, {2, "int f(int n){return n;}@return f(f(f(1)));"}, {3, "int f(void){return 1;}int g(void){return f()+f();}@return g()+f();"}, {3, "int f(void){return 1;}int g(void){return f();}@int(*p)(void)=g;return p();"}, {11, "int f(int n){return n?f(n-1):0;}@return f(9);"}, {5, "int f(int n){return n<2?n:f(n-1)+f(n-2);}@return f(4);"}, {6, "int n;@if(n++<5)main();return 0;"}, {2, "int f(void){exit(1);}@return f();"},
	} {
		if o := mean(t, whole(c.text), "", enough); o.Depth != c.depth || o.End != impl.EndExit {
			t.Errorf("%q: depth %d, end %d, not %d", c.text, o.Depth, o.End, c.depth)
		}
	}
	// A call is under way once its locals have been counted, main too.
	for _, c := range []struct{ fuel, depth, steps int }{{0, 0, 0}, {4, 0, 4}, {5, 1, 5}, {6, 1, 6}, {14, 1, 14}} {
		if o := mean(t, whole("int a[5];return 0;"), "", c.fuel); o.Depth != c.depth || o.End != impl.EndFuel || o.Steps != c.steps {
			t.Errorf("fuel %d: %v", c.fuel, o)
		}
	}
	for _, c := range []struct{ fuel, depth int }{{0, 1}, {1, 1}, {3, 1}, {4, 1}, {5, 1}, {6, 2}, {7, 2}} {
		if o := mean(t, whole("void f(int n){char c;putchar(n);}@f(65);return 0;"), "", c.fuel); o.Depth != c.depth || o.End != impl.EndFuel || o.Steps != c.fuel {
			t.Errorf("fuel %d: %v", c.fuel, o)
		}
	}
	if o := mean(t, whole(""), "", 0); o.Depth != 1 || o.End != impl.EndFuel || o.Steps != 0 {
		t.Errorf("no fuel: %v", o)
	}
}

// MaxCalls calls and one more; the locals of the one too many count nothing.
func TestDeepCalls(t *testing.T) {
	for _, c := range []struct {
		n, end, depth int
	}{{997, impl.EndExit, 999}, {998, impl.EndExit, impl.MaxCalls}, {999, impl.EndFuel, impl.MaxCalls}, {1500, impl.EndFuel, impl.MaxCalls}} {
		for _, text := range []string{"int f(int n){return n?f(n-1):0;}@return f(#);", "int f(int n){int(*p)(int)=f;return n?p(n-1):0;}@return f(#);", "void f(int n){int big[50];if(n)f(n-1);}@f(#);return 0;", "int n=#;@if(n<0)return 0;n--;{int k=main();}return 0;", "int g(int);int f(int n){return n?g(n-1):0;}int g(int n){return n?f(n-1):0;}@return f(#);"} {
			if o := mean(t, whole(fill(text, c.n)), "", 500000); o.End != c.end || o.Depth != c.depth || o.Value != 0 {
				t.Errorf("%s, %d: %v", text, c.n, o)
			}
		}
	}
	// main: block, return, call. Each of the 999 behind it: a local of 25 words, block, block, fresh, return, call.
	deep := mean(t, whole("int f(void){char c[99];return f();}@return f();"), "", 500000)
	if want := 3 + 999*(25+1+(2+25)+2); deep.End != impl.EndFuel || deep.Steps != want {
		t.Errorf("one too many: %v, not %d", deep, want)
	}
	// What the arguments of the call do still counts.
	if a, b := mean(t, whole("int f(int n){return f(n);}@return f(1);"), "", 500000), mean(t, whole("int f(int n){return f(n+1);}@return f(1);"), "", 500000); b.Steps-a.Steps != 999*2 {
		t.Errorf("%v, %v", a, b)
	}
	// Calls that follow one another are not deep.
	if o := mean(t, whole("int f(int n){return n?f(n-1):0;}@int i;for(i=0;i<3;i++)f(900);return 0;"), "", 500000); o.End != impl.EndExit || o.Depth != 902 {
		t.Errorf("one after the other: %v", o)
	}
}
