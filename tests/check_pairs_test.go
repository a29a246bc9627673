package tests

import (
	"strings"
	"testing"
)

// Something of each kind of type, as places and as values, and each kind of 0.
const (
	leanBody = `struct S{int a;char b;struct S*n;};union U{int a;char b;};enum E{Z=0};typedef int A3[3];
int f(int x){return x;}void v(void){}int i,*p,a[3],(*fp)(int),(*fp2)(void),(*ap)[3];char c,*cp;unsigned char uc;
short sh;unsigned short us;unsigned u;void*w;struct Q*q;struct S s,*sp;union U un;int main(void){`
	namedKinds = "i c us u p cp w q sp fp ap a s un f"
	valueKinds = `v() 1 2u 0 Z (int)0 (short)i &a &f (void*)0 (s=s) (i?0:p) "x"`
)

// seen sees an expr and, now and then, when it is right, the same in one more place that shows its type.
func seen(t *testing.T, at int, expr string) {
	t.Helper()
	if _, code, _, _ := check(t, leanBody+expr+";}"); code != 0 || at%3 > 0 {
		return
	}
	around := []string{
		"sizeof(#)", "(#)/2", "c=#", "p=#", "(#)>>1", "w=#", "*(#)", "(#)+1", "us=#", "!(#)", "i?#:0", "(#)==0", "f(#)", "(#)<1", "&(#)", "cp=#", "(#)++", "(#)=1", "fp=#", "s=#", "(#)(1)", "(#)[0]", "sp=#", "(#)->a", "(#)-p", "q=#", "uc=#", "(#)<p",
	}
	check(t, leanBody+strings.Replace(around[at/3%len(around)], "#", expr, 1)+";}")
}

func TestEachPairOfTypes(t *testing.T) {
	somethings := strings.Fields(namedKinds + " " + valueKinds)
	for _, sign := range strings.Fields("* / + - << >> < >= == & && || = += -= /= >>= |= , [ ? ?: (") {
		t.Run(sign, func(t *testing.T) {
			t.Parallel()
			for i, x := range somethings {
				for j, y := range somethings {
					expr := "(" + x + ")" + sign + "(" + y + ")"
					switch sign {
					case "[":
						expr = "(" + x + ")[" + y + "]"
					case "?":
						expr = "(" + x + "?" + y + ":" + y + ")"
					case "?:":
						expr = "(i?" + x + ":" + y + ")"
					case "(":
						expr = "(" + x + ")(" + y + ")"
					}
					seen(t, i*37+j*5, "("+expr+")")
				}
			}
		})
	}
}

func TestEachOperandOfOne(t *testing.T) {
	t.Parallel()
	for i, x := range strings.Fields(namedKinds + " sh uc fp2 " + valueKinds + " '\\0' +i (char)i &i &s s.a sp->n *p a[1] *sp *fp v") {
		for j, form := range []string{
			"+#", "-#", "~#", "!#", "*#", "&#", "#++", "#--", "++#", "--#", "sizeof #", "#.a", "#.b", "#.z", "#->a", "#->n", "#->z", "#()", "#(1,2)", "f(#)", "putchar(#)", "fp(#)",
			"(void)#", "(char)#", "(unsigned char)#", "(short)#", "(unsigned short)#", "(int)#", "(unsigned)#", "(int*)#", "(char*)#", "(void*)#", "(struct Q*)#", "(struct S*)#", "(int(*)(int))#", "(int(*)(void))#", "(int(*)[3])#", "(struct S)#", "(union U)#", "(A3)#", "(int(int))#", "(enum E)#", "(int**)#",
		} {
			seen(t, i*11+j, "("+strings.Replace(form, "#", "("+x+")", 1)+")")
		}
		for _, form := range []string{
			"if(#);", "while(#);", "do;while(#);", "for(;#;);", "for(#;;#);", "switch(#);", "switch(#){case 1:;}", "switch(i){case #:;}", "return #;", "#;",
			"int z=#;", "char z=#;", "unsigned z=#;", "int*z=#;", "char*z=#;", "void*z=#;", "int(*z)(int)=#;", "struct S z=#;", "union U z=#;", "int z[3]=#;", "char z[]=#;", "int z[]={#};", "char*z[]={#};", "struct S z={#};", "struct S z={1,#};", "struct S z={1,2,#};", "union U z={#};", "int z[#];", "int z={#};", "struct S z={#,#,#,#};",
		} {
			check(t, leanBody+strings.ReplaceAll(form, "#", "("+x+")")+"}")
		}
	}
	// At the top, of globals.
	for _, x := range strings.Fields(`gi gc gu ga gp gs gt f v h 1 0 0u '\0' K Z &gi &ga &gs &gs.b ga+1 ga+5 ga+6 1+ga ga-1 &ga[2] gt[1].n gt[1].b &gt[1].b gt->b &gt->n "x" "x"+1 "x"+2 "x"+3 "x"[0] &"x" *"x" f(1) v() gi+1 1+2 -1 (char)300 (int*)0 (void*)&gi (char*)ga+19 (char*)ga+21 (int*)"x" gs gt &f *f &*ga *&gi sizeof(gi) gi=1 gi++ (gi,1) 1?2:3 1?&gi:0 1?gi:2 !gi !0 &gs==0 gp gp+1 *gp ga[1] getchar() putchar 1/0 1<<31 1<<32 &gp &*gp ~0u`) {
		for _, form := range []string{
			"int z=#;", "char z=#;", "unsigned short z=#;", "int*z=#;", "char*z=#;", "void*z=#;", "int(*z)(int)=#;", "void(*z)(void)=#;", "struct S z=#;", "union U z=#;", "int z[3]=#;", "char z[]=#;", "char z[1]=#;", "int z[]={#};", "char*z[]={#};", "void*z[2]={#,#};", "struct S z={#};", "struct S z={1,#};", "struct S z={1,2,#};", "union U z={#};", "int z[#];", "int z={#};", "struct P z={#,#};", "enum X{X=#,Y};int z=Y;", "struct S*z=#;", "int(*z)[5]=#;", "char(*z)[2]=#;", "int**z=#;", "char z[2][2]={#,{#}};",
		} {
			check(t, aBody+strings.ReplaceAll(form, "#", x)+emptyMain)
		}
	}
}
