package tests

import (
	"strings"
	"testing"
)

func TestPlacesAreNeeded(t *testing.T) {
	bodiesSay(t, 23, "3@=i;", "(i+1)@=2;", "a@=p;", "f@=0;", "f(1)@=2;", "K@=1;", "(&i)@=p;", "(i,i)@=1;", "(i?i:i)@=1;", "i++@=1;", "(i=1)@=2;", "\"x\"@=0;", "gt@=gt;", "*fp@=0;", "v()@=1;", "(s=s)@=s;", "s.a++@=1;", "-i@=1;", "(char)c@=1;", "sizeof i@=1;")
	bodiesSay(t, 23, "3@+=i;", "a@+=1;", "f@-=1;", "s@+=1;", "s@+=s;", "un@*=2;", "v()@+=1;", "(i+1)@<<=1;", "K@|=1;", "(&i)@-=1;", "gt@+=1;", "\"x\"@+=1;", "*ap@+=1;", "gs@^=v();")
	bodiesSay(t, 23, "3@++;", "(i+1)@++;", "a@++;", "f@--;", "s@++;", "un@--;", "v()@++;", "K@--;", "i++@++;", "@++3;", "@--a;", "@++s;", "@++v();", "@++i++;", "@--f;", "@++ ++i;", "\"x\"@++;", "(*fp)@++;", "(&i)@++;")
	bodiesSay(t, 23, "@&3;", "@&i++;", "@&(i+1);", "@&f(1);", "@&K;", "@& &i;", "@&v();", "@&(i,i);", "@&(i?i:i);", "@&(i=1);", "@&(s=s);", "@&-i;", "@&(char)c;", "@&sizeof i;", "@&++i;")
	bodiesSay(t, 0, "&i;&a;&a[1];&s;&s.a;&sp->n;&*p;&f;&*f;&\"x\";&un;&gt;&gt[1];&*ap;&(i);&((a[0]));", "i=1;a[0]=2;*p=3;s.a=4;sp->b=5;p=0;s=*sp;un.b=1;gt[0]=s;(*ap)[1]=1;(i)=1;*&i=2;\"x\"[0]=1;", "i++;--c;p++;sp--;++s.a;(*p)++;a[1]--;gp--;cp++;", "i+=1;c*=2;p+=c;sp-=1;s.b|=1;*p<<=1;u%=3;")
}

func TestOperandsOfWrongTypes(t *testing.T) {
	bodiesSay(t, 24, "1@[a];", "i@[1];", "a@[p];", "w@[1];", "q@[1];", "f@[1];", "fp@[1];", "s@[1];", "v()@[1];", "a@[s];", "a@[v()];", "p@[p];", "a@[f];", "K@[1];", "un@[0];")
	bodiesSay(t, 0, "a[c];p[u];ap[0][1];gt[1];cp[K];sp[-1];\"x\"[0];pp[0][0];(&i)[0];")
	bodiesSay(t, 24, "i@.a;", "p@.a;", "sp@.a;", "a@.a;", "f@.a;", "v()@.a;", "gt@.a;", "3@.a;", "q@.a;", "(s=s)@.a;")
	bodiesSay(t, 24, "i@->a;", "p@->a;", "s@->a;", "w@->a;", "f@->a;", "q@->a;", "v()@->a;", "a@->a;", "0@->a;", "un@->a;", "pp@->a;", "fp@->a;")
	bodiesSay(t, 25, "s@.c;", "s@.S;", "un@.c;", "sp@->x;", "(&s)@->i;", "o@.a;", "gt@->z;", "gt[0]@.z;", "s.n@->c;", "s.n->n@->c;", "(*sp)@.c;")
	bodiesSay(t, 0, "s.a;s.b;s.n;un.a;un.b;sp->n->n->a;gt->a;(&un)->b;o.x;gt[1].n;(*sp).a;")
	bodiesSay(t, 24, "w@++;", "q@++;", "fp@--;", "@++w;", "@--q;", "@++fp2;")
	bodiesSay(t, 24, "@-p;", "@+p;", "@~p;", "@-s;", "@~un;", "@+f;", "@-a;", "@-v();", "@+w;", "@!s;", "@!v();", "@!un;", "@*i;", "@*w;", "@*q;", "@*s;", "@*v();", "@*3;", "@*0;", "@**p;", "@-sp;", "@*K;")
	bodiesSay(t, 0, "-i;+c;~u;!p;!f;!i;*p;*a;*f;**pp;*sp;!w;!q;*ap;**ap;*fp;-K;~'a';!a;!\"\";")
	bodiesSay(t, 24, "p@*1;", "1@*p;", "s@*1;", "1@*s;", "p@/p;", "f@%1;", "v()@*1;", "1@/v();", "a@%a;", "un@*un;", "w@*w;")
	bodiesSay(t, 24, "p@+p;", "w@+1;", "1@+w;", "q@+1;", "q@-q;", "f@+1;", "1@+f;", "fp@-fp;", "1@-p;", "p@-w;", "w@-w;", "p@-cp;", "s@+1;", "1@+s;", "v()@+1;", "1@-v();", "p@-sp;", "ap@-a;", "p@+s;", "f@-f;", "p@-f;", "p@-pp;", "c@-cp;", "w@-1;")
	bodiesSay(t, 0, "p+1;1+p;p-1;p-p;a+c;a-a;ap+1;ap-&a;sp-gt;pp+u;cp-\"x\";p-a;K+p;gt+K;&i-p;")
	bodiesSay(t, 24, "p@<<1;", "1@<<p;", "s@>>1;", "1@>>s;", "v()@<<1;", "1@>>v();", "a@>>a;", "f@<<1;")
	bodiesSay(t, 24, "p@<1;", "1@<p;", "p@<0;", "0@>=p;", "p@<w;", "p@>cp;", "f@<g;", "fp@<=fp;", "s@<s;", "s@<1;", "1@<s;", "v()@>v();", "p@<pp;", "w@<p;", "fp@>fp2;", "sp@<&o;")
	bodiesSay(t, 0, "p<p;p>=a;w<w2;q<=q2;i<u;c>sh;ap>&a;&f==&f;sp<gt;&fp>&fp;")
	bodiesSay(t, 24, "p@==1;", "1@!=p;", "p@==cp;", "f@==w;", "w@!=fp;", "fp@==fp2;", "s@==s;", "s@==0;", "0@==s;", "v()@==0;", "p@==i;", "p@==Z;", "p@==(int)0;", "p@==+0;", "p@==-0;", "p@==(1?0:0);", "sp@==&o;", "fp@==p;", "p@!=ap;", "q@==p;", "p@==(char)0;")
	bodiesSay(t, 0, "p==p;p!=0;0==p;w==p;p==w;w==w2;w==q;q!=q2;fp==f;f==g;fp!=0;0==f;0==0;p==(void*)0;w!=0u;'\\0'==cp;f==&f;sp==gt;ap==&a;i==u;c!=K;")
	bodiesSay(t, 24, "p@&1;", "1@|p;", "p@^p;", "s@&1;", "1@^s;", "v()@|1;", "f@&f;", "p@&0;")
	bodiesSay(t, 24, "s@&&1;", "1@&&s;", "v()@||1;", "1@||v();", "un@&&un;", "0@&&s;")
	bodiesSay(t, 0, "p&&f;i||w;a&&q;s.a&&sp;0||fp;c&&u;")
	bodiesSay(t, 24, "s@?1:2;", "v()@?1:2;", "i@?p:1;", "i@?1:p;", "i@?s:s;", "i@?s:0;", "i@?v():1;", "i@?1:v();", "i@?p:cp;", "i@?f:w;", "i@?fp:fp2;", "i@?p:Z;", "i@?v():s;", "i@?un:un;", "i@?q:p;", "i@?p:s;", "un@?1:1;", "i@?f:p;", "i@?0:v();", "i@?0:s;")
	bodiesSay(t, 0, "i?1:u;p?p:0;f?0:p;i?p:w;i?w:p;i?w:w2;i?f:g;i?f:0;i?v():v();i?(void)s:v();i?q:q2;i?w:q;i?a:p;i?\"a\":cp;i?0:0;i?K:c;")
	bodiesSay(t, 24, "i@=p;", "p@=i;", "p@=1;", "p@=Z;", "p@=(int)0;", "p@=cp;", "i@=s;", "s@=i;", "s@=o;", "s@=un;", "s@=sp;", "s@=0;", "i@=v();", "p@=v();", "s@=v();", "fp@=fp2;", "fp@=w;", "w@=f;", "fp@=v;", "p@=f;", "i@=f;", "p@=ap;", "sp@=&o;", "q@=p;", "un@=s;", "pp@=p;", "i@=a;", "c@=\"x\";", "ap@=a;", "s@=(s=s);")
	bodiesSay(t, 0, "i=u;c=i;us=-1;p=0;p=a;p=w;w=p;w=q;q=w;w=0;fp=f;fp=&f;fp=0;s=s2;s=*sp;un=un;ap=&a;cp=\"x\";pp=&p;i=K;sp=gt;w=&f==0?0:w;q=q2;")
	bodiesSay(t, 24, "i@+=p;", "p@*=1;", "p@+=p;", "p@-=p;", "w@+=1;", "q@-=1;", "fp@+=1;", "p@+=s;", "i@+=s;", "i@+=v();", "p@&=1;", "p@<<=1;", "i@*=f;", "c@|=a;", "p@-=v();", "u@>>=p;")
	bodiesSay(t, 24, "i@,s;", "i@,v();", "i,i@,un;", "(i@,s);", "f((1@,s));", "s@,s;", "(i@,s).a;", "(i@,s)=s;", "(void)(i@,v());", "return 1@,s;")
	bodiesSay(t, 0, "s,i;v(),i;(s=s),i;s,(un,1);(void)0,f(1);s,a;un,f;")
	bodiesSay(t, 24, "@(int)p;", "@(int)s;", "@(int)v();", "@(char)a;", "@(struct S)s;", "@(struct Q)i;", "@(A3)a;", "@(int(int))f;", "@(char*)1;", "@(char*)i;", "@(char*)Z;", "@(int*)s;", "@(void*)v();", "@(void*)f;", "@(int*)f;", "@(int(*)(int))p;", "@(int(*)(int))w;", "@(int(*)(int))fp2;", "@(int(*)(void))f;", "@(int(*)(int))1;", "@(int*)(int)0;", "@(union U)un;", "@(unsigned)f;", "@(A3)0;", "@(struct S)0;", "@(struct S)v();")
	bodiesSay(t, 0, "(char)i;(int*)0;(int*)w;(struct Q*)p;(void*)q;(int(*)(int))f;(int(*)(int))0;(void)i;(void)s;(void)v();(void)f;(void)a;(void)un;(char*)a;(int(*)[3])p;(A3*)w;(enum E)i;(int**)&q;(void)(void)0;(int*)'\\0';(int*)0u;")
}

func TestCallsOfWrongKinds(t *testing.T) {
	bodiesSay(t, 26, "i@();", "p@(1);", "s@();", "un@(1);", "v()@();", "3@();", "K@(1);", "a@();", "\"x\"@();", "f(1)@(2);", "(*p)@();", "w@();", "q@(1);", "sp@();", "(s=s)@();", "ap@();", "(&fp)@(1);", "0@();")
	bodiesSay(t, 26, "f@();", "f@(1,2);", "v@(1);", "fp@();", "(*fp)@(1,2);", "fp2@(1);", "(&f)@();", "(*f)@(1,2,3);", "h@(1);", "main@(1);")
	bodiesSay(t, 24, "f@(p);", "f@(s);", "f@(v());", "f@(f);", "fp@(p);", "(*f)@(un);", "putchar@(p);", "exit@(v());")
	bodiesSay(t, 0, "f(c);f(u);f(K);fp(1);(*fp)(1);(**fp)(1);(&f)(1);(***f)(1);(i?f:g)(1);fp2();v();main();f(f(f(1)));(i,f)(1);(fp=f)(1);")
	topsSay(t, 24, "int f(int*p){return 0;}int g(void){return f@(1);}", "int f(int*p,int i){return 0;}int g(char*c){return f@(c,1);}", "int f(int(*p)(int)){return 0;}int g(void*w){return f@(w);}", "int f(int(*p)(int)){return f@(f);}", "int f(char c,int*p){int i;return f@(&i,&i);}")
	topsSay(t, 0, "int f(int*p){return f(0)+f(p)+f((void*)p);}", "int f(void*w){return f(w)+f(\"x\")+f(0)+f(&w);}", "int f(int g(int)){return g(1);}int h(int i){return f(h)+f(&h)+f(*h)+f(0);}", "char f(char c,unsigned short s){return f(1,2);}")
	means(t, "char f(char c,unsigned char d,short e,unsigned short g,int i,unsigned u,int*p,void*w){return f(c,1,c,c,c,c,0,p);}"+emptyMain,
		"(function f i8 (local 1 1 i8 0) (local 1 1 u8 0) (local 2 2 i16 0) (local 2 2 u16 0) (local 4 4 w 0) (local 4 4 w 0) (local 4 4 p 0) (local 4 4 p 0) 8 (block (return (call f (load i8 (local 0)) (conv u8 (num 1)) (conv i16 (load i8 (local 0))) (conv u16 (load i8 (local 0))) (load i8 (local 0)) (load i8 (local 0)) (null) (load p (local 6))))))\n"+emptyMainCore)
	means(t, "void f(char(*g)(char,unsigned char,short,unsigned short,int,unsigned,int*,void(*)(void))){g(1,1,1,1,1,1,0,0);}"+emptyMain,
		"(function f void (local 4 4 p 0) 1 (block (do (callp i8(i8,u8,i16,u16,w,w,p,p) (load p (local 0)) (conv i8 (num 1)) (conv u8 (num 1)) (conv i16 (num 1)) (conv u16 (num 1)) (num 1) (num 1) (null) (null)))))\n"+emptyMainCore)
}

func TestSizesOfWhatHasNone(t *testing.T) {
	bodiesSay(t, 22, "@sizeof(void);", "@sizeof f;", "@sizeof(struct Q);", "@sizeof v();", "@sizeof *f;", "@sizeof *fp;", "@sizeof(int(void));", "@sizeof(s=s);", "@sizeof((void)i);", "sizeof @sizeof v();", "@sizeof(i?v():v());", "@sizeof((void)0)+1;")
	bodiesSay(t, 24, "sizeof @*w;", "sizeof @*q;", "sizeof(i@+s);")
	bodiesSay(t, 20, "sizeof @x;", "sizeof(f(@x));", "sizeof(int[@x]);", "sizeof *@x;")
	bodiesSay(t, 0, "sizeof s;sizeof un;sizeof a;sizeof *sp;sizeof \"x\";sizeof(struct S);sizeof(A3);sizeof &f;sizeof w;sizeof(void*);sizeof(struct Q*);sizeof gt;sizeof *ap;sizeof f(1);sizeof(1,c);")
}

func TestStatementsOfWrongKinds(t *testing.T) {
	bodiesSay(t, 24, "@if(s);", "@if(v());else;", "@while(s);", "@while(v());", "@do;while(s);", "@do;while(v());", "@for(;s;);", "@for(;v(););", "@for(int z;un;);", "@switch(s);", "@switch(v());", "@switch(p);", "@switch(f){}", "@switch(a)case 1:;", "@switch(un)default:;", "@switch(w);", "@for(;(s=s););", "@if((void)0);")
	bodiesSay(t, 0, "if(p);if(f);if(a);if(c);if(w)1;else 2;", "while(p);while(u)break;do;while(q);", "for(s;p;s);for(v();i;v());for(;f;);for(s=s;;un);", "switch(i);switch(c);switch(u);switch(sh){}switch(K)case 1:;switch('a');", "s;v();un;;a;f;3;\"\";")
	bodiesSay(t, 29, "@case 1:;", "@default:;", "@break;", "@continue;", "{@case 1:;}", "if(i)@break;", "while(i);@break;", "do;while(0);@continue;", "for(;;);@break;", "switch(i);@case 1:;", "switch(i){}@default:;", "switch(i)@continue;", "switch(i){case 1:@continue;}", "switch(i)case 1:;@break;", "while(1)switch(i);@continue;", "for(;;){switch(i){}}@continue;")
	bodiesSay(t, 0, "while(i)break;do continue;while(i);for(;;)if(i)break;else continue;", "switch(i)break;while(i)switch(i){continue;case 1:break;default:continue;}", "switch(i){while(i){case 1:continue;default:break;}}", "switch(i){case 1:{case 2:;}if(i)case 3:;else case 4:;do case 5:;while(0);for(;;)case 6:;lab:case 7:;}", "switch(i)case 1:case 2:default:case 3:;")
	bodiesSay(t, 29, "switch(i){case 1:;@case 1:;}", "switch(i){case 1:@case 1:;}", "switch(i){case 1:;{@case 2-1:;}}", "switch(i){case -1:;case 0:;@case 4294967295:;}", "switch(i){case 'a':;@case 97u:;}", "switch(i){case K:;@case 3:;}", "switch(i){case 1:switch(i){case 1:;}@case 1:;}", "switch(i){case 255:;@case(unsigned char)-1:;}", "switch(c){case 1:;while(1){@case 1:;}}", "switch(u){default:;@default:;}", "switch(i){default:@default:;}", "switch(i){default:switch(i)default:;@default:;}", "switch(i){default:;case 1:;{@default:;}}")
	bodiesSay(t, 0, "switch(i){case 1:switch(i){case 1:;default:;}case 2:;default:;}", "switch(i){case 1:;}switch(i){case 1:;default:;}", "switch(i){case -1:;case 0:;case 1:;case 4294967294:;}", "switch(c){case 1:;case 257:;case -255:;}", "switch(i){switch(i){case 1:;}case 1:;}")
	bodiesSay(t, 27, "switch(i){case @i:;}", "switch(i){case @gi:;}", "switch(i){case f@(1):;}", "switch(i){case 1@/0:;}", "switch(i){case @\"x\":;}", "switch(i){case @&i:;}", "switch(i)case (@p):;", "switch(i){case @f:;}", "switch(i){case @a:;}")
	bodiesSay(t, 29, "@goto x;", "x:;@goto y;goto x;", "{@goto x;}", "if(i)@goto x;else goto y;", "x:;@x:;", "{x:;}@x:;", "{x:;}{@x:;}", "x:y:z:;@y:;", "x:;goto x;while(1){@x:;}", "@goto i;", "@goto x;goto y;y:;", "goto y;@goto x;goto z;y:;", "@goto main;")
	bodiesSay(t, 0, "x:;goto x;", "goto x;x:;", "goto x;{{x:;}}", "{x:;}goto x;", "i:;goto i;", "f:s:S:main:goto f;", "x:y:z:goto y;goto x;", "while(i){x:;}goto x;switch(i)y:;goto y;", "unused:;")
	topsSay(t, 0, "int f(void){x:goto x;}int g(void){goto x;x:;}")
	topsSay(t, 29, "int f(void){x:;}int g(void){@goto x;}", "int f(void){@goto x;}int g(void){x:;}")
	bodiesSay(t, 30, "@return;", "if(i)@return;")
	bodiesSay(t, 24, "@return p;", "@return s;", "@return v();", "@return f;", "@return a;", "@return un;", "@return w;")
	bodiesSay(t, 0, "return c;return u;return K;return i;return'a';return(i,c);")
	topsSay(t, 30, "void f(void){@return 1;}", "void f(void){@return f();}", "void f(void*p){@return p;}", "struct S{int a;};void f(struct S*p){@return*p;}", "char*f(void){@return;}", "char f(void){if(1)return 1;@return;}", "void f(void){@return (void)0;}", "void f(void){@return 0;}")
	topsSay(t, 24, "char*f(void){@return 1;}", "char*f(int*p){@return p;}", "int*f(void){@return f;}", "struct S{int a;};int f(struct S*p){@return*p;}", "int(*f(void))(int){@return f;}", "void*f(void){@return f;}", "unsigned f(void*p){@return p;}")
	topsSay(t, 0, "void f(void){return;}", "void f(void){}", "char*f(void){return 0;}", "char*f(void*p){return p;}", "void*f(int*p){return p;}", "char f(unsigned u){return u;}", "int k(int x){return x;}int(*g(void))(int){return k;}", "char*f(void){return\"x\";}", "int*f(void){}")
}

// In every place where a kid may stand, a value of type void, struct or union.
func TestValuesThatAreNotScalar(t *testing.T) {
	t.Parallel()
	for _, c := range []struct {
		code int
		text string
	}{
		{24, "#@[1];"}, {24, "a@[#];"}, {26, "#@();"}, {26, "#@(1);"}, {24, "f@(#);"}, {24, "#@->a;"}, {23, "#@++;"}, {23, "@--#;"},
		{24, "@+#;"}, {24, "@-#;"}, {24, "@~#;"}, {24, "@!#;"}, {24, "@*#;"}, {24, "@(int)#;"}, {24, "@(int*)#;"}, {24, "@(struct S)#;"}, {0, "(void)#;"},
		{24, "#@*1;"}, {24, "1@*#;"}, {24, "#@+1;"}, {24, "p@+#;"}, {24, "#@-#;"}, {24, "#@<<1;"}, {24, "1@>>#;"}, {24, "#@<1;"}, {24, "#@==#;"}, {24, "0@==#;"}, {24, "#@==0;"}, {24, "#@&1;"}, {24, "1@|#;"}, {24, "#@&&1;"}, {24, "0@&&#;"}, {24, "1@||#;"},
		{24, "#@?1:2;"}, {24, "i@?#:1;"}, {24, "i@?1:#;"}, {24, "i@?#:0;"}, {24, "i@?#:p;"}, {24, "i@=#;"}, {24, "p@=#;"}, {24, "i@+=#;"}, {24, "p@+=#;"}, {23, "#@+=1;"}, {0, "#,1;"}, {24, "1@,#;"}, {24, "#@,#;"},
		{0, "#;"}, {24, "@if(#);"}, {24, "@while(#);"}, {24, "@do;while(#);"}, {24, "@for(;#;);"}, {0, "for(#;1;#);"}, {24, "@switch(#);"}, {24, "switch(i){@case #:;}"}, {24, "@return #;"},
		{24, "int z=@#;"}, {24, "int*z=@#;"}, {24, "int z[2]={1,@#};"}, {24, "int z@[#];"}, {24, "struct S z={1,@#};"}, {24, "sizeof(int@[#]);"}, {24, "(int(*)@[#])0;"},
	} {
		for _, value := range []string{"s", "un", "v()", "gt[1]", "(*sp)", "(s=s)", "((void)1)", "(i?v():v())", "(*sp->n)"} {
			text := strings.ReplaceAll(c.text, "#", value)
			for _, place := range []string{"v@()", "gt@[1]", "(s@=s)", "(i@?v():v())", "(@*sp->n)", "(@*sp)", "(@(void)1)"} {
				// The place of these is not where they begin.
				if plain := strings.Replace(place, "@", "", 1); plain == value {
					text = strings.ReplaceAll(text, "@"+plain, place)
				}
			}
			bodiesSay(t, c.code, text)
		}
	}
	topsSay(t, 24, "void v(void){}enum E{@A=v()};", "struct S{int a;};struct S s;enum E{A,@B=s};", "void v(void){}int a@[v()];", "void v(void){}int a=v@();", "void v(void){}int*a=v@();", "struct S{int a;};struct S s;int a=@s;", "struct S{int a;};struct S s;int*a=@s;", "struct S{int a;};struct S s;int a[]={1,@s};", "void v(void){}int a[]={v@()};", "struct S{int a;};struct S s;struct T{char*c;};struct T t={@s};", "struct S{int a;};struct S s;struct T{int a@[s];};", "void v(void){}int f(int x[2]@[v()]);")
}

// What type an expr has, by what it can be used for.
func TestTypesOfExprs(t *testing.T) {
	isPointer := func(to string, exprs ...string) {
		t.Helper()
		for _, expr := range exprs {
			other := "int"
			if to == "int" {
				other = "char"
			}
			bodiesSay(t, 0, "{"+to+"*z=("+expr+");}", "{int z=("+expr+")==("+to+"*)w;}")
			bodiesSay(t, 24, "{"+other+"*z;z@=("+expr+");}", "{int z;z@=("+expr+");}")
		}
	}
	isPointer("int", "p", "a", "&i", "p+1", "1+p", "p-1", "p++", "--p", "p+=1", "p=0", "p=w", "i?p:0", "i?0:p", "i?p:w", "i?w:p", "i?a:p", "i,p", "(int*)cp", "(int*)w", "*pp", "pp[0]", "&*p", "*ap", "ap[1]", "&a[2]", "&s.a", "&sp->a", "gp", "ga", "(int*)0")
	isPointer("char", "cp", "\"x\"", "&c", "&s.b", "i?\"x\":0", "i?w:cp", "(char*)p", "cp++", "&*cp", "\"x\"+1", "i?\"x\":cp")
	isPointer("struct S", "sp", "&s", "gt", "sp->n", "s.n", "&gt[1]", "i?sp:0", "i?w:sp", "(struct S*)w", "sp++", "gt+1", "1+gt", "&*sp")
	isPointer("struct Q", "q", "i?q:0", "i?q:w", "i?w:q", "(struct Q*)p", "q=q2")
	bodiesSay(t, 24, "@*w;", "@*(i?w:w2);", "@*(i?w:0);", "@*(i?0:w);", "@*(void*)p;", "@*(w=p);", "@*(i?q:w);", "@*(i,w);")
	bodiesSay(t, 0, "*(i?w:p);*(i?p:w);*(i?p:0);*(p=w);*(i,p);(i?sp:w)->a;(i?w:sp)->a;(i?0:sp)->a;(i?w:gt)[1].a;(i?f:0)(1);(i?0:f)(1);")
	// Arithmetic: whether without a sign shows in a division, how great in sizeof, whether narrow in what is given.
	for _, c := range []struct{ exprs, div, size string }{
		{"i|c+1|+c|-uc|~us|!u|u<1|u==1|u&&1|p==0|p-p|i+c|c*c|sh<<u|us>>1|i?c:sh|K|'a'|f(1)|i=u|i+=u|i++|(int)u|i&c|c^c|uc/uc|1|i,c+0|sh%us", "/", "4"},
		{"u|u+1|i+u|+u|-u|~u|u<<1|u>>c|i*u|c-u|i?u:1|i?1:u|1u|4294967295|sizeof i|sizeof(char)|(unsigned)c|u=1|u+=c|u--|u&1|1^u|i,u|u%c|i/1u", "u/", "4"},
		{"c|c=1|c++|--c|c+=u|(char)i|h()|*cp|s.b|cp[1]|*\"x\"|i,c", "/", "1"},
		{"sh|sh=1|sh--|sh*=2|(short)u|i,sh", "/", "2"},
		{"us|us=1|us--|us^=u|(unsigned short)i", "/", "2"},
		{"uc|uc=1|++uc|uc>>=1|(unsigned char)c", "/", "1"},
	} {
		for _, expr := range strings.Split(c.exprs, "|") {
			core, code, line, col := check(t, aBody+aMain+"("+expr+")/-1;sizeof("+expr+");}")
			if code != 0 || !strings.Contains(core, "(do (bin "+c.div+" ") || !strings.HasSuffix(core, "(do (num "+c.size+"))))\n") {
				t.Errorf("%q: %d %d %d %s", expr, code, line, col, core[max(0, len(core)-200):])
			}
		}
	}
}
