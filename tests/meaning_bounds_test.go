package tests

import (
	"strings"
	"testing"

	"loop.example/s01681/impl"
)

// Values and steps as deep as a tree may be, in calls as deep as they may be.
func TestDeepValuesInDeepCalls(t *testing.T) {
	t.Parallel()
	for _, c := range []struct{ front, one, middle, close, behind string }{
		{"return n?", "", "f(n-1)", "+1", ":0;"}, {"return n?(", "", "f(n-1)", ",1", "):0;"}, {"return n?", "- ", "f(n-1)", "", ":0;"}, {"return n?", "", "f(n-1)", "||0", ":0;"}, {"return n?", "1?", "f(n-1)", ":0", ":0;"}, {"return n?", "g(", "f(n-1)", ")", ":0;"}, {"int a;return n?", "a=", "f(n-1)", "", ":0;"}, {"int a=0;return n?", "a+=", "f(n-1)", "", ":0;"}, {"return n?", "z[", "f(n-1)", "]", ":0;"},
		{"if(n)", "{", "f(n-1);", "}", ""}, {"if(n)", "if(1)", "f(n-1);", "", ""}, {"if(n)", "while(1)", "return f(n-1);", "", ""}, {"if(n)", "for(;;)", "return f(n-1);", "", ""}, {"if(n)", "do ", "f(n-1);", "while(0);", ""}, {"if(n)", "switch(0)default:", "f(n-1);", "", ""}, {"if(n)goto l;return 0;", "{", "l:f(n-1);", "}", ""},
	} {
		// As many as there can be.
		text, count := "", 190
		if c.one == "g(" {
			// Each of these takes steps of its own.
			count = 90
		}
		for code := -1; code != 0; count-- {
			text = "int z[2];int g(int a){return a;}int f(int n){" + deep(c.front, c.one, c.middle, c.close, count) + c.behind + "}int main(void){return f(997);}"
			if _, code, _, _ = impl.Check([]byte(text)); code != 0 && code != 11 || count < 60 {
				t.Fatalf("%.300s: code %d", text, code)
			}
		}
		if o := mean(t, text, "", impl.MaxFuel); o.End != impl.EndExit || o.Depth < 999 {
			t.Errorf("%s.. %d: %v", c.one+c.close, count, o)
		}
		if o := mean(t, strings.Replace(text, "997", "1003", 1), "", impl.MaxFuel); o.End != impl.EndFuel || o.Depth != impl.MaxCalls {
			t.Errorf("%s.. %d: %v", c.one+c.close, count, o)
		}
	}
}

func TestLongRuns(t *testing.T) {
	t.Parallel()
	for _, text := range []string{"for(;;);", "int n=0;a:n++;goto a;", "void f(void){}@for(;;)f();", "int i;for(i=0;;i++)if(i<0)return 1;", "int a[9];@int i;for(i=0;;i=(i+1)%9)a[i]+=i;", "int f(int n){return n<2?n:f(n-1)+f(n-2);}@return f(40);"} {
		if o := mean(t, whole(text), "", impl.MaxFuel); o.End != impl.EndFuel || o.Steps != impl.MaxFuel {
			t.Errorf("%q: %v", text, o)
		}
	}
	sieve := "char s[9000];@int i,j,n=0;for(i=2;i<9000;i++)if(!s[i]){n++;for(j=i+i;j<9000;j+=i)s[j]=1;}return n;"
	if o := mean(t, whole(sieve), "", impl.MaxFuel); o.End != impl.EndExit || o.Value != 1117 {
		t.Errorf("primes: %v", o)
	}
	// A program that needs all there is, and one that needs one more.
	exact := "int main(void){int i;for(i=0;i<#;i++);return 0;}"
	few := mean(t, fill(exact, 10), "", impl.MaxFuel).Steps
	round := mean(t, fill(exact, 11), "", impl.MaxFuel).Steps - few
	rounds := (impl.MaxFuel-few)/round + 10
	rest := impl.MaxFuel - mean(t, fill(exact, rounds), "", impl.MaxFuel).Steps
	filled := strings.Replace(fill(exact, rounds), "return", strings.Repeat(";", rest)+"return", 1)
	if o := mean(t, filled, "", impl.MaxFuel); o.End != impl.EndExit || o.Steps != impl.MaxFuel {
		t.Errorf("all: %v", o)
	}
	if o := mean(t, strings.Replace(filled, "return", ";return", 1), "", impl.MaxFuel); o.End != impl.EndFuel || o.Steps != impl.MaxFuel {
		t.Errorf("one more: %v", o)
	}
}

func TestGreatObjects(t *testing.T) {
	t.Parallel()
	most := "60000"
	exits(t, 7, "", "char g["+most+"];@g[59999]=7;return g[59999]+g[59998];")
	undefined(t, "char g["+most+"];@g["+most+"]=7;", "char g["+most+"];@return g["+most+"];", "char g["+most+"];@g+60001;")
	defined(t, "char g["+most+"];@return g+60000-g-60000;")
	if o := mean(t, whole("char l["+most+"];l[59999]=3;return l[59999];"), "", impl.MaxFuel); o.End != impl.EndExit || o.Value != 3 || o.Steps != 15000+1+(2+15000)+7+5 {
		t.Errorf("a great local: %v", o)
	}
	if o := mean(t, whole("struct S{int a[15000];};struct S x,y;@x.a[14999]=8;y=x;return y.a[14999];"), "", impl.MaxFuel); o.End != impl.EndExit || o.Value != 8 {
		t.Errorf("a great copy: %v", o)
	}
	if o := mean(t, whole("int a[15000]={1};return a[14999]+a[0];"), "", impl.MaxFuel); o.End != impl.EndExit || o.Value != 1 {
		t.Errorf("a great list: %v", o)
	}
	// More locals than there is fuel for: nothing is begun.
	text := whole(many(200, "char c#[60000];"))
	if o, code, _, _ := impl.Meaning([]byte(text), nil, impl.MaxFuel); code != 0 || o.End != impl.EndFuel || o.Steps != impl.MaxFuel || o.Depth != 0 {
		t.Errorf("too many: %v, %d", o, code)
	}
	// As much as can be declared at the top.
	text = whole(many(impl.MaxGlobals, "char g#[60000];") + "@g0[1]=g499[59999]+5;return g0[1];")
	if o, code, _, _ := impl.Meaning([]byte(text), nil, 1000); code != 0 || o.End != impl.EndExit || o.Value != 5 {
		t.Errorf("all globals: %v, %d", o, code)
	}
	// A local that is made again and again.
	if o := mean(t, whole("int f(void){int a[1000]={5};return a[0]+a[999];}@int i,s=0;for(i=0;i<300;i++)s+=f();return s;"), "", impl.MaxFuel); o.End != impl.EndExit || o.Value != 1500 {
		t.Errorf("again and again: %v", o)
	}
	// Many objects one after the other, each of its own.
	if o := mean(t, whole("int*last;int f(int n){int x=n;int k=last!=&x;last=&x;return k;}@int i;last=0;for(i=0;i<20;i++){last=0;f(i);}return 0;"), "", impl.MaxFuel); o.End != impl.EndExit {
		t.Errorf("one after the other: %v", o)
	}
}

func TestMuchInput(t *testing.T) {
	t.Parallel()
	in := strings.Repeat("0123456789", impl.MaxIn/10)
	if o := mean(t, whole("int c;while((c=getchar())!=-1)putchar(c);return c;"), in, impl.MaxFuel); o.End != impl.EndExit || string(o.Out) != in {
		t.Errorf("end %d, %d bytes", o.End, len(o.Out))
	}
	if o := mean(t, whole("int n=0;while(getchar()!=-1)n++;return n;"), in, impl.MaxFuel); o.End != impl.EndExit || o.Value != impl.MaxIn {
		t.Errorf("end %d, %d bytes", o.End, o.Value)
	}
	if o := mean(t, whole("int i;for(i=0;i<9999;i++)getchar();return getchar()*1000+(getchar()==-1);"), in, impl.MaxFuel); o.Value != '9'*1000+1 {
		t.Errorf("the last byte: %v", o)
	}
	all := make([]byte, 256)
	for i := range all {
		all[i] = byte(i)
	}
	if o := mean(t, whole("int c;while((c=getchar())!=-1)putchar(c);return 0;"), string(all), impl.MaxFuel); string(o.Out) != string(all) {
		t.Errorf("all bytes: %q", o.Out)
	}
}

func TestGreatSourcesMean(t *testing.T) {
	t.Parallel()
	for text, value := range map[string]int{
		strings.Repeat(";", impl.MaxNodes-20) + "return 3;": 3, "int i=0;" + strings.Repeat("i++;", 900) + "return i;": 900, "int i=0;switch(899){" + many(900, "case #:;") + "return 5;}return 6;": 5, many(600, "goto l#;l#:;") + "return 4;": 4,
		"int a[]={" + strings.Repeat("1,", 900) + "};int i,s=0;for(i=0;i<sizeof a/4;i++)s+=a[i];return s;": 900, many(250, "int f#(int n){return n+#;}") + "@return f0(f100(f249(1)));": 350, many(200, "int a#=#;") + "@return a0+a199;": 199, "int s=0;" + many(190, "int a#=#;s+=a#;") + "return s;": 189 * 190 / 2,
	} {
		if o := mean(t, whole(text), "", impl.MaxFuel); o.End != impl.EndExit || o.Value != value {
			t.Errorf("%.60q: %v", text, o)
		}
	}
	// A goto goes to each label of many.
	text := "int i=-1;next:i++;if(i==180)return i;switch(i){" + many(180, "case #:goto l#;") + "}" + many(180, "l#:if(i!=#)return 1000;goto next;")
	if o := mean(t, whole(text), "", impl.MaxFuel); o.End != impl.EndExit || o.Value != 180 {
		t.Errorf("many labels: %v", o)
	}
}
