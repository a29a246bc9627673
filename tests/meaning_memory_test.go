package tests

import (
	"fmt"
	"strings"
	"testing"
)

// fill puts texts in the places of #, % and ~.
func fill(text string, parts ...any) string {
	for i, sign := range []string{"#", "%", "~"} {
		if i < len(parts) {
			text = strings.ReplaceAll(text, sign, fmt.Sprint(parts[i]))
		}
	}
	return text
}

var scalarSizes = []struct {
	of   string
	size int
}{{"char", 1}, {"unsigned char", 1}, {"short", 2}, {"unsigned short", 2}, {"int", 4}, {"unsigned", 4}, {"int*", 4}, {"void*", 4}}

// Each kind at each offset of objects of some sizes, globals and locals.
func TestWhereScalarsLie(t *testing.T) {
	for _, kind := range scalarSizes {
		for size := 1; size <= 9; size++ {
			for off := 0; off <= size; off++ {
				fits := off%kind.size == 0 && off+kind.size <= size
				isDefined(t, fits, fill("char g[%];@*(#*)(g+~);return 0;", kind.of, size, off))
				isDefined(t, fits, fill("char g[%];@*(#*)(g+~)=0;return 0;", kind.of, size, off))
				isDefined(t, fits, fill("char g[%]={0};*(#*)(g+~);return 0;", kind.of, size, off))
				isDefined(t, fits, fill("char g[%];*(#*)(g+~)=0;return*(#*)(g+~)!=0;", kind.of, size, off))
				if !strings.HasSuffix(kind.of, "*") {
					isDefined(t, fits, fill("char g[%];@*(#*)(g+~)+=0;return(*(#*)(g+~))++;", kind.of, size, off))
				}
			}
		}
	}
	// A pointer that slides, by its bytes.
	for off := 0; off <= 8; off++ {
		isDefined(t, off == 0 || off == 4, fill("int x[2];int*g[2]={x,x};@(*(int**)((char*)g+#))++;return 0;", off))
		isDefined(t, off == 0 || off == 4, fill("int x[2];int*g[2]={x,x};@*(int**)((char*)g+#)+=1;return 0;", off))
	}
	// The bytes of a word, and how the kinds widen them.
	exits(t, 0x04030201, "", "unsigned char g[4]={1,2,3,4};@return*(int*)g;")
	exits(t, 0x0201, "", "unsigned char g[4]={1,2,3,4};@return*(short*)g;")
	exits(t, 0x0403, "", "unsigned char g[4]={1,2,3,4};@return*(unsigned short*)(g+2);")
	exits(t, -1, "", "int g=-1;@return*(char*)&g;")
	exits(t, 255, "", "int g=-1;@return*(unsigned char*)&g;")
	exits(t, -1, "", "int g=-1;@return*(short*)&g;")
	exits(t, 65535, "", "int g=-1;@return*(unsigned short*)&g;")
	exits(t, 0x12ff5678, "", "int g=0x12345678;@((char*)&g)[2]=-1;return g;")
	exits(t, 0xabcd5678, "", "int g=0x12345678;@((short*)&g)[1]=0xabcd;return g;")
	exits(t, 0x12345601, "", "int g=0x12345678;@*(char*)&g=257;return g;")
	exits(t, 0x56, "", "union U{int i;char b[4];};@union U u;u.i=0x12345678;return u.b[1];")
}

// lostPointers are null, functions, and objects that have ended.
var lostPointers = []struct{ make, equals string }{
	{"int*get(void){return 0;}", "1"},
	{"int fun(void){return 0;}union P{int*p;int(*f)(void);};int*get(void){union P u;u.f=fun;return u.p;}", "0"},
	{"int*get(void){int x=1;return&x;}", ""},
	{"int*get(void){int x[3]={1};return x+3;}", ""},
	{"int*get(int);int*inner(int x){return&x;}int*(*at)(int)=inner;int*get(int n){return at(n);}", ""},
}

// Null, functions and pointers to what has ended: handing them on is right, and each use.
func TestPointersToNoObject(t *testing.T) {
	for i, lost := range lostPointers {
		get := "get()"
		if i == 4 {
			get = "get(3)"
		}
		tops := lost.make + "struct S{int*p;char c;};struct T{int n;};int*id(int*p){return p;}struct S gs;int*gp;struct T gt;"
		defined(t,
			tops+"@"+get+";return 0;", tops+"@int*p="+get+",*q;q=p;p=q;return 0;", tops+"@(void)"+get+";return 0;", tops+"@id(id("+get+"));return 0;",
			tops+"@int*p=1?"+get+":0;p=0?0:p;return 0;", tops+"@int*p=(1,"+get+");"+get+",0;return 0;", tops+"@struct S s,u;s.p="+get+";s.c=1;u=s;gs=u;gp=gs.p;return 0;",
			tops+"@int*a[2]={"+get+"};return a[1]!=0;", tops+"@void*v="+get+";char*c=v;struct T*q=(struct T*)c;return 0;", tops+"@int**q=&gp;*q="+get+";return 0;", tops+"@struct T*q=(struct T*)"+get+";&q->n;return 0;")
		for _, use := range []string{
			"*p;", "*p=1;", "*p+=1;", "(*p)++;", "p[0];", "p+0;", "p-0;", "0+p;", "p+1;", "p++;", "++p;", "p--;", "p+=0;", "p-=0;", "p-p;", "p<p;", "p<=p;", "p>p;", "p>=p;", "*(char*)p;", "*(int**)p;", "*(int**)p=0;", "(*(int**)p)++;",
			"struct T s;s=*(struct T*)p;", "*(struct T*)p=gt;", "*(struct T*)p=*(struct T*)p;", "struct T s=*(struct T*)p;", "&((struct S*)p)->c;",
		} {
			undefined(t, tops+"@int*p="+get+";"+use+"return 0;")
		}
		for _, use := range []string{
			"return!p-%;", "return(p==0)-%;", "return(p!=0)-!%;", "return(0==p)-%;", "return(p==p)-1;", "return p!=p;", "return(p?0:1)-%;", "return(p&&1)-!%;", "return(p||0)-!%;", "if(p)return!%-1;return %-1;",
			"while(p)return!%-1;return %-1;", "do if(%+0)return 0;while(!p);return 0;", "for(;p;)return!%-1;return %-1;", "return(p==(void*)0)-%;", "return p==&*gp&&!%;",
		} {
			text := tops + "@int*p=" + get + ";" + use
			if lost.equals == "" {
				undefined(t, fill(text, "", 0))
			} else {
				defined(t, strings.ReplaceAll(text, "%", lost.equals))
			}
		}
	}
	// A local lives as long as its call, through calls of others.
	exits(t, 9, "", "int*gp;void set(void){*gp=9;}@int x=1;gp=&x;set();return x;")
	exits(t, 12, "", "int sum(int*p,int n){if(n==0)return 0;{int x=*p+1;return x+sum(&x,n-1);}}@int z=2;return sum(&z,3);")
	undefined(t, "int*gp;void keep(void){int x=4;gp=&x;}@keep();return*gp;", "int*gp;void keep(void){int x=4;gp=&x;}@keep();keep();return*gp;", "int*gp;void keep(int n){int x=4;if(n)gp=&x;else *gp=1;}@keep(1);keep(0);return 0;")
	// The local of a block that was left has not ended; what it holds stays until it is come to again.
	exits(t, 5, "", "int*p;{int x=5;p=&x;}return*p;")
	undefined(t, "int*p=0,i;for(i=0;i<2;i++){int x;if(p)return*p;x=5;p=&x;}return 0;")
	exits(t, 6, "", "int*p=0,i;for(i=0;i<2;i++){int x;x=5+i;if(p)return*p;p=&x;}return 0;")
}

// What the bytes of an object can hold, and what can be read from them.
func TestWhatBytesHold(t *testing.T) {
	// Nothing.
	for _, kind := range scalarSizes {
		undefined(t, fill("# x;x;", kind.of), fill("# x;return!x;", kind.of), fill("# x[2];x[0]=0;x[1];", kind.of), fill("struct S{# a;# b;};@struct S s;s.a=0;s.b;", kind.of))
		defined(t, fill("# x;&x;return 0;", kind.of), fill("# x;x=0;x;return 0;", kind.of), fill("# x[2];x[0]=0;x[0];return 0;", kind.of), fill("# x;@x;return 0;", kind.of), fill("# f(# a){return a;}@f(0);return 0;", kind.of))
	}
	undefined(t, "int i;i++;", "int i;i+=1;", "int*p;p++;", "int i;*(char*)&i=1;*((char*)&i+1)=1;*((char*)&i+2)=1;i;", "int i;*(short*)&i=1;i;", "int*p;*(short*)&p=0;p;", "char c;c=c;")
	exits(t, 0x01010101, "", "int i;*(char*)&i=1;*((char*)&i+1)=1;*((char*)&i+2)=1;*((char*)&i+3)=1;return i;")
	exits(t, 0x00020001, "", "int i;*(short*)&i=1;*((short*)&i+1)=2;return i;")
	// Bytes 0 are null, others are no pointer; null is bytes 0.
	defined(t, "int i=0;return*(int**)&i!=0;", "int*p=0;return*(int*)&p;", "int*p=0;return*((char*)&p+3);", "char b[4]={0};return*(char**)b!=0;", "int*gp;@return gp!=0||*(short*)&gp;", "int*p;*(short*)&p=0;*((short*)&p+1)=0;return p!=0;")
	for _, word := range []string{"1", "256", "65536", "16777216", "-1", "0x80000000"} {
		undefined(t, fill("int i=#;*(int**)&i;", word), fill("int g=#;@*(int**)&g;", word), fill("int i=#;(*(int**)&i)++;", word))
	}
	// Parts of a pointer are no words, and become bytes when one is written.
	for _, use := range []string{"*(int*)&p;", "*(char*)&p;", "*(unsigned char*)((char*)&p+3);", "*(short*)&p;", "*(unsigned short*)((char*)&p+2);", "*(int*)&p+=0;", "++*(char*)&p;", "*(char*)&p=0;p;", "*((char*)&p+3)=0;p;", "*(short*)&p=0;p;", "*(char*)&p=0;p++;", "*((char*)&p+1)=0;*(int*)&p;"} {
		undefined(t, "int x=1;int*p=&x;"+use, "int x;int*p=&x;@"+use, "int f(void){}int(*p)(void)=f;@"+strings.ReplaceAll(use, "p++", "p()"))
	}
	defined(t, "int x=0;int*p=&x;*(int*)&p=0;return p!=0;", "int x=0;int*p=&x;*(char*)&p=5;p=&x;return*p;", "int x=0;int*p=&x;*(int*)&p=5;return*(int*)&p-5;", "int x=0;int*p=&x;*(char*)&p=5;return*(char*)&p-5;",
		"int x=0;int*p=&x;*(int*)&p=0x01020304;p=0;return*(int*)&p;", "int x=0;int*p=&x;return**(int**)&p;", "int x=0;void*p=&x;return**(int**)&p;", "int x=0;int*p=&x;*(char*)&p=0;*((char*)&p+1)=0;*((short*)&p+1)=0;return p!=0;")
}

// byteTops can copy a byte of any kind, and a pointer's bytes one by one.
const byteTops = "struct B{char c;};struct H{char c[2];};struct C{char c[3];};void one(void*to,int i,void*from,int k){((struct B*)to)[i]=((struct B*)from)[k];}void two(void*to,int i,void*from,int k){*(struct H*)((char*)to+i)=*(struct H*)((char*)from+k);}int x,y;"

func TestPartsOfPointers(t *testing.T) {
	tops := byteTops
	exits(t, 1, "", tops+"@int*p=&x,*q;one(&q,0,&p,0);one(&q,1,&p,1);one(&q,2,&p,2);one(&q,3,&p,3);return q==&x;")
	exits(t, 1, "", tops+"@int*p=&x,*q;one(&q,3,&p,3);one(&q,1,&p,1);one(&q,2,&p,2);one(&q,0,&p,0);return q==&x;")
	exits(t, 1, "", tops+"@int*p=&x,*q;two(&q,2,&p,2);two(&q,0,&p,0);return q==&x;")
	// Each row of four parts of one pointer.
	for row := range 256 {
		a, b, c, d := row&3, row>>2&3, row>>4&3, row>>6
		text := fmt.Sprintf("@int*p=&x,*q;one(&q,0,&p,%d);one(&q,1,&p,%d);one(&q,2,&p,%d);one(&q,3,&p,%d);return q!=&x;", a, b, c, d)
		isDefined(t, a == 0 && b == 1 && c == 2 && d == 3, tops+text)
	}
	// Of two pointers, of two that are the same, of null and another.
	for _, c := range []struct {
		p, q string
		is   bool
	}{{"&x", "&y", false}, {"&x", "&x+1", false}, {"&x", "&x", true}, {"&x+1", "&x+1", true}, {"0", "&x", false}, {"&x", "0", false}, {"0", "0", true}} {
		for _, cut := range []string{"two(&q,0,&p,0);", "two(&q,2,&p,2);", "one(&q,0,&p,0);", "one(&q,1,&p,1);", "one(&q,2,&p,2);", "one(&q,3,&p,3);"} {
			isDefined(t, c.is, tops+fill("@int*p=#,*q=%;"+cut+"return q!=p;", c.p, c.q))
		}
	}
	// Functions have parts as well, each its own.
	tops += "int f(void){return 0;}int g(void){return 1;}"
	defined(t, tops+"@int(*p)(void)=f,(*q)(void);two(&q,0,&p,0);two(&q,2,&p,2);return q();", tops+"@int(*p)(void)=f,(*q)(void)=f;two(&q,0,&p,0);return q();")
	undefined(t, tops+"@int(*p)(void)=f,(*q)(void)=g;two(&q,0,&p,0);return q();", tops+"@int(*p)(void)=f,(*q)(void)=g;one(&q,3,&p,3);q;", tops+"@int(*p)(void)=f;int*q=&x;two(&q,0,&p,0);q;")
	// Fewer than four, beside bytes and nothing.
	for i := range 4 {
		undefined(t, tops+fill("@int*p=&x,*q=0;one(&q,#,&p,#);q;", i), tops+fill("@int*p=&x,*q;one(&q,#,&p,#);q;", i), tops+fill("@int*p=&x,*q,z=0;one(&p,#,&z,#);p;", i), tops+fill("@int*p=&x,*q;one(&p,#,&q,#);p;", i))
		// And put back, it is one again.
		defined(t, tops+fill("@int*p=&x,*q=&x;one(&q,#,&x,#);one(&q,#,&p,#);return q!=&x;", i))
	}
	// A pointer lies at other places, also across words, when it was copied there; it is read where it fits.
	defined(t, tops+"@char b[12];int*p=&x,*q;two(b,3,&p,0);two(b,5,&p,2);two(b,8,b,3);two(b,10,b,5);return*(int**)(b+8)!=&x;")
	undefined(t, tops+"@char b[12];int*p=&x;two(b,3,&p,0);two(b,5,&p,2);*(int**)(b+3);", tops+"@char b[12];int*p=&x;two(b,3,&p,0);two(b,5,&p,2);*(int**)(b+4);")
	// Parts of a pointer to what has ended can be handed on.
	defined(t, tops+"int*get(void){int z;return&z;}@int*p=get(),*q;two(&q,0,&p,0);two(&q,2,&p,2);p=q;return 0;")
	undefined(t, tops+"int*get(void){int z;return&z;}@int*p=get(),*q=get();two(&q,0,&p,0);q;")
}

func TestCopies(t *testing.T) {
	tops := "struct C{char c[3];};struct L{int a[3];};char g[8]=\"abcdefgh\";char h[8];int a[8]={1,2,3,4,5,6,7,8};"
	// The same stretch, those that touch, and those that have bytes in common, within one object.
	for to := 0; to <= 8; to++ {
		for from := 0; from <= 8; from++ {
			fits := to+3 <= 8 && from+3 <= 8 && (to == from || to >= from+3 || from >= to+3)
			isDefined(t, fits, tops+fill("@*(struct C*)(g+#)=*(struct C*)(g+%);return g[#]!='a'+%;", to, from))
			isDefined(t, to+3 <= 8 && from+3 <= 8, tops+fill("@*(struct C*)(h+#)=*(struct C*)(g+%);return h[#]!='a'+%||h[#+2]!='c'+%;", to, from))
			isDefined(t, to+3 <= 8 && from+3 <= 8, tops+fill("@char l[8];*(struct C*)(l+#)=*(struct C*)(g+%);return l[#+1]!='b'+%;", to, from))
		}
	}
	for to := range 9 {
		for from := range 9 {
			fits := to <= 5 && from <= 5 && (to == from || to >= from+3 || from >= to+3)
			isDefined(t, fits, tops+fill("@*(struct L*)(a+#)=*(struct L*)(a+%);return a[#]-1-%;", to, from))
		}
	}
	// What is copied is as it was: nothing, bytes, pointers.
	exits(t, 3, "", "struct S{int a;int b;};@struct S s,u;s.b=3;u=s;return u.b;")
	undefined(t, "struct S{int a;int b;};@struct S s,u;s.b=3;u=s;return u.a;", "struct S{int a;int b;};@struct S s,u={1,2};u=s;return u.a;", "struct S{int a;};struct S g={4};@struct S s;g=s;return g.a;", "struct S{char c;int b;};@struct S s={1,2},u;u=s;*(int*)&s;u.c=1;struct S v;v.c=1;v.b=2;u=v;return*(int*)&u;")
	exits(t, 2, "", "struct S{char c;int b;};@struct S s={1,2},u;u=s;return*((int*)&u+1)+((char*)&u)[2];")
	exits(t, 7, "", "struct S{int*p;int n;};int x=7;@struct S s={&x,1},u;u=s;s.p=0;return*u.p;")
	exits(t, 5, "", "union U{char c[6];int n;};@union U u,v;v.n=5;u=v;return u.n;")
	exits(t, 8, "", "struct S{int a[2];};@struct S s={{3,5}},u=s;return u.a[0]+u.a[1];")
	exits(t, 34, "", "struct S{int a;};@struct S s[3]={{1},{2},{3}};s[0]=s[2];s[2].a=4;return s[0].a*10+s[2].a;")
	// A local can be copied on itself while it holds nothing.
	defined(t, "struct S{int a;};@struct S s;s=s;return 0;", "struct S{int a;};@struct S s=s;return 0;")
	// Zero: all bytes, behind which the inits stand.
	defined(t, "int a[5]={0};return a[0]||a[4];", "char a[7]={0};return a[6];", "int*a[3]={0};return a[2]!=0;", "struct S{char c;int n;};@struct S s={0};return*(int*)&s||s.n;", "struct S{char c;int n;};@struct S s={1};return((char*)&s)[3];")
	exits(t, 100, "", "int i,s=0;for(i=0;i<2;i++){int a[3]={1};a[1]+=50;s+=a[1];}return s;")
	undefined(t, "int a[5];return a[4];", "struct S{char c;int n;};@struct S s;s.c=1;s.n=2;return((char*)&s)[3];")
	// Locals hold nothing again when their declaration is come to, also arrays and structs.
	undefined(t, "int i;for(i=0;i<2;i++){int k;if(i)return k;k=1;}return 0;", "int i;for(i=0;i<2;i++){int k[3];if(i)return k[2];k[2]=1;}return 0;", "int i=0;a:{int k;if(i)return k;k=1;i=1;goto a;}", "int i;for(i=0;i<2;i++){int*k;if(i)k;k=&i;}")
	exits(t, 1, "", "int i=0;goto b;a:{int k;b:if(i)return k;k=1;i=1;goto b;}")
}

// Globals have their pieces, and bytes 0 elsewhere.
func TestGlobalsAtFirst(t *testing.T) {
	exits(t, 321, "", "int a=1,b[3]={2,3};struct S{char c;short h;char*p;};struct S s={3,-4,\"z\"};@return s.c*100+b[0]*10+a+b[2]+(s.h!=-4)+(*s.p!='z');")
	exits(t, 'e', "", "char s[]=\"hey\";char*p=s+1;@return*p+s[3];")
	exits(t, 'y', "", "char*p=\"hey\"+2;@return*p+p[1];")
	exits(t, 1, "", "int f(void){return 1;}int(*p)(void)=f;@return p();")
	exits(t, 1, "", "int a[3];int*p=a+3,*q=&a[1],*z;@return p==a+3&&q==a+1&&z==0&&p-q==2;")
	exits(t, 200, "", "unsigned char c=200;char d=200;@return c+(d!=-56);")
	exits(t, 65535, "", "unsigned short c=-1;short d=-1;@return c+(d!=-1);")
	exits(t, 1<<31, "", "int c=0x80000000;@return c;")
	exits(t, 255, "", "char s[3]=\"\\377\\0a\";@return*(unsigned char*)s+s[1]+(s[0]!=-1)+(s[2]!='a');")
	exits(t, 5, "", "union U{char c;int n;};union U u={5};@return u.n;")
	exits(t, 7, "", "int x=7;int*p=&x;int**q=&p;int***r=&q;@return***r;")
	exits(t, 9, "", "struct N{struct N*n;int v;};struct N a;struct N b={&a,4};struct N a2={&b,5};@return a2.v+a2.n->v+(a2.n->n!=&a);")
	exits(t, 1, "", "@return\"a\"!=\"a\";")
	exits(t, 0, "", "char*f(void){return\"a\";}@return f()!=f();")
	exits(t, 'b', "", "char*f(void){return\"a\";}@*f()='b';return*f();")
}
