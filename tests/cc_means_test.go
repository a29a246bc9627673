package tests

import (
	"bytes"
	"fmt"
	"math/rand"
	"slices"
	"strings"
	"sync"
	"sync/atomic"
	"testing"

	"loop.example/s01681/impl"
)

// onMachine is a right source that is not undefined, with what it means and what it needs: so many steps for one of Meaning,
// and so much stack for its calls. A source whose code is too great for an image is none.
type onMachine struct {
	text, in string
	meant    impl.Outcome
	cost     int
	need     int
}

func newOnMachine(t *testing.T, ir impl.Ir, text, in string, meant impl.Outcome) (onMachine, bool) {
	t.Helper()
	written, code, _, _ := impl.Compile([]byte(text), impl.MaxStack)
	_, built, _, _ := impl.Build([]byte(text), impl.MaxStack)
	if code != 0 && code != 34 || built != code && built != 35 {
		t.Errorf("%.1000q: Compile says %d, Build %d", text, code, built)
	}
	cost := 80 + 2*bytes.Count(written, []byte("\n"))
	return onMachine{text, in, meant, cost, meant.Depth * slices.Max(impl.Frames(ir))}, built == 0
}

func (m onMachine) exec(t *testing.T, fuel, stack int) impl.Outcome {
	t.Helper()
	o, code, line, col := impl.Exec([]byte(m.text), []byte(m.in), fuel, stack)
	if code != 0 || line != 0 || col != 0 || !isMachineOutcome(o) || o.Steps > fuel {
		t.Errorf("%.1000q, %q, fuel %d, stack %d: %v, %d, %d, %d", m.text, m.in, fuel, stack, o, code, line, col)
	}
	return o
}

// exits is promise 14 for a source that means something: with a stack and fuel enough it ends as it means, after no more than
// its cost in steps. The stack is what promise 15 calls enough. It gives nothing where there is not so much of both.
func (m onMachine) exits(t *testing.T) (impl.Outcome, bool) {
	t.Helper()
	most := m.cost*m.meant.Steps + 1
	fuel, stack := min(most, impl.MaxFuel), min(m.need, impl.MaxStack)
	o := m.exec(t, fuel, stack)
	switch {
	case o.End == impl.EndStack && m.need > impl.MaxStack:
		return o, false
	case o.End == impl.EndFuel && most > impl.MaxFuel:
		m.writesAlike(t, fuel, stack, o)
		return o, false
	case o.End != impl.EndExit || o.Value != m.meant.Value || !bytes.Equal(o.Out, m.meant.Out):
		t.Errorf("%.2000q, %q, fuel %d, stack %d: %v, but it means %v", m.text, m.in, fuel, stack, o, m.meant)
		return o, false
	}
	return o, true
}

// writesAlike is promise 16: what is written on the machine and what Meaning has written are one the beginning of the other.
func (m onMachine) writesAlike(t *testing.T, fuel, stack int, o impl.Outcome) {
	t.Helper()
	if !bytes.HasPrefix(o.Out, m.meant.Out) && !bytes.HasPrefix(m.meant.Out, o.Out) {
		t.Errorf("%.1500q, %q, fuel %d, stack %d: %v, but it means %v", m.text, m.in, fuel, stack, o, m.meant)
	}
}

// withLess is the second half of promise 15, for a stack and a fuel that need not be enough: a source that means something
// ends with EndExit, EndStack or EndFuel alone, and as it means when it ends with the first.
func (m onMachine) withLess(t *testing.T, fuel, stack int) impl.Outcome {
	t.Helper()
	o := m.exec(t, fuel, stack)
	m.writesAlike(t, fuel, stack, o)
	switch {
	case o.End != impl.EndExit && o.End != impl.EndStack && o.End != impl.EndFuel,
		o.End == impl.EndExit && (o.Value != m.meant.Value || !bytes.Equal(o.Out, m.meant.Out)):
		t.Errorf("%.1500q, %q, fuel %d, stack %d: %v, but it means %v", m.text, m.in, fuel, stack, o, m.meant)
	}
	return o
}

// all sees all that is promised of a source that is not undefined.
func (m onMachine) all(t *testing.T, r *rand.Rand) bool {
	t.Helper()
	if m.meant.End != impl.EndExit {
		fuel := r.Intn(20000)
		m.writesAlike(t, fuel, impl.MaxStack, m.exec(t, fuel, impl.MaxStack))
		m.traced(t, 16*r.Intn(256), 500)
		return false
	}
	o, ok := m.exits(t)
	fuel, stack := min(o.Steps, impl.MaxFuel), min(m.need, impl.MaxStack)
	m.withLess(t, fuel, 16*r.Intn(stack/16))
	m.withLess(t, r.Intn(fuel), stack)
	if ok {
		m.withMore(t, r, o, stack)
	}
	m.traced(t, stack, 1000)
	return ok
}

// machined are the sources that doesAsMeantOnce has seen.
var machined sync.Map

// doesAsMeantOnce sees something of that, for a source with an input that has not come up yet.
func doesAsMeantOnce(t *testing.T, ir impl.Ir, text, in string, meant impl.Outcome) {
	t.Helper()
	if meant.End == impl.EndUndefined {
		return
	}
	if _, done := machined.LoadOrStore(fmt.Sprint(meant.End, " ", in, " ", text), true); done {
		return
	}
	m, ok := newOnMachine(t, ir, text, in, meant)
	if !ok {
		return
	}
	r := rand.New(rand.NewSource(int64(sumOf(text + in))))
	if r.Intn(8) == 0 {
		m.all(t, r)
	} else if meant.End == impl.EndExit {
		m.exits(t)
	}
}

// onTheMachine sees all of it for a right source, and gives whether that ended as it means.
func onTheMachine(t *testing.T, r *rand.Rand, text, in string, fuel int) bool {
	t.Helper()
	meant, code, _, _ := impl.Meaning([]byte(text), []byte(in), fuel)
	if code != 0 || meant.End == impl.EndUndefined {
		return false
	}
	ir, code, _, _ := impl.Lower([]byte(text))
	if code != 0 {
		return false
	}
	m, ok := newOnMachine(t, ir, text, in, meant)
	return ok && m.all(t, r)
}

func TestMadeUpSourcesOnTheMachine(t *testing.T) {
	var same atomic.Int32
	const count = 800
	seeds(t, count, func(t *testing.T, seed int) {
		r := rand.New(rand.NewSource(int64(seed) + 99999))
		text, in := madeRun(r, []int{0, 0, 0, 60}[seed%4]), "some input"[:r.Intn(11)]
		same.Add(int32(oneIf(onTheMachine(t, r, text, in, 60000))))
	})
	if same.Load() < count*6/10 {
		t.Errorf("%d ended as they mean", same.Load())
	}
}

// Sources that need many registers and great frames.
func TestWideSourcesOnTheMachine(t *testing.T) {
	var same, spilt, far atomic.Int32
	const count = 240
	seeds(t, count, func(t *testing.T, seed int) {
		r := rand.New(rand.NewSource(int64(seed) + 4444))
		text, in := madeWideRun(r), "some input"[:r.Intn(11)]
		same.Add(int32(oneIf(onTheMachine(t, r, text, in, impl.MaxFuel))))
		ir, _, _, _ := impl.Lower([]byte(text))
		for _, f := range ir.Funs {
			spilt.Add(int32(oneIf(slices.ContainsFunc(impl.Allot(f), func(p impl.Place) bool { return p.Spill >= 0 }))))
		}
		for _, size := range impl.Frames(ir) {
			far.Add(int32(oneIf(size > 2047)))
		}
	})
	if same.Load() < count*8/10 || spilt.Load() < 100 || far.Load() < 50 {
		t.Errorf("%d ended as they mean; %d functions with spills, %d with great frames", same.Load(), spilt.Load(), far.Load())
	}
}

// Sources of the maker for Check, which loop as it comes, and mostly are undefined.
func TestMadeUpProgramsOnTheMachine(t *testing.T) {
	var same atomic.Int32
	seeds(t, 600, func(t *testing.T, seed int) {
		r := rand.New(rand.NewSource(int64(seed) + 1234567))
		same.Add(int32(oneIf(onTheMachine(t, r, madeProgram(r, 0), "in", 20000))))
	})
	if same.Load() < 30 {
		t.Errorf("%d ended as they mean", same.Load())
	}
}

// sourcesByHand do something of everything, each with an input: what they mean is said by chapter 9.
func sourcesByHand() []struct{ in, text string } {
	return []struct{ in, text string }{
		{"", "return 42;"}, {"", ""}, {"", "exit(3);"}, {"", "int f(int n){return n<2?n:f(n-1)+f(n-2);}@return f(12);"}, {"some words here", "int c,n=0,w=0;while((c=getchar())!=-1){n++;if(c==' ')w++;putchar(c>='a'&&c<='z'?c-32:c);}return n*100+w;"}, {"3+4*2-1", "int pos,c;int next(void){int o=c;c=getchar();return o;}int num(void){return next()-'0';}int term(void){int v=num();while(c=='*'){next();v*=num();}return v;}@c=getchar();int v=term();while(c=='+'||c=='-')if(next()=='+')v+=term();else v-=term();return v;"},
		{"", "void put(unsigned n){if(n>=10)put(n/10);putchar('0'+n%10);}@int i;for(i=0;i<5;i++){put(i*i*i*1000003);putchar('\\n');}put(-1);return i;"}, {"", "int a[10]={5,3,9,1,8,2,7,0,6,4};@int i,j,t;for(i=0;i<10;i++)for(j=0;j<9-i;j++)if(a[j]>a[j+1]){t=a[j];a[j]=a[j+1];a[j+1]=t;}for(i=0;i<10;i++)putchar('0'+a[i]);return a[9];"}, {"HAL", "struct N{int v;struct N*next;};struct N pool[20];int used;struct N*cons(int v,struct N*n){struct N*p=&pool[used++];p->v=v;p->next=n;return p;}@struct N*l=0,*r=0;int c;while((c=getchar())!=-1)l=cons(c,l);for(;l;l=l->next)r=cons(l->v+1,r);while(r){putchar(r->v);r=r->next;}return used;"},
		{"", "typedef int(*op)(int,int);int add(int a,int b){return a+b;}int mul(int a,int b){return a*b;}int fold(op f,int*a,int n,int z){while(n--)z=f(z,*a++);return z;}@int v[4]={1,2,3,4};return fold(add,v,4,0)*100+fold(mul,v,4,1);"}, {"", "union U{unsigned u;unsigned char b[4];short h[2];};@union U x;x.u=0x41424344;int i;for(i=3;i>=0;i--)putchar(x.b[i]);x.h[1]=-2;return x.u>>16;"}, {"", "struct S{char c[5];short h;int n;};struct S g={\"abcd\",-3,9};@struct S a=g,b,*p=&a;a.n=-5;b=*p;b.c[2]='X';p=&b;int i;for(i=0;i<4;i++)putchar(p->c[i]);return p->n+(*p).h+a.c[2];"},
		{"", "int g(int a,char b,unsigned char c,short d,unsigned short e,int*f,int h,unsigned i){int x=a-b,y=c-d,z=e-*f;*f=h;return x*1000+y*100+z*10+i/2;}@int k=300;return g(1,200,200,40000,40000,&k,7,4294967295)+k;"}, {"", "int n=27,s=0;while(n!=1){if(n&1)n=3*n+1;else n/=2;s++;}return s;"}, {"", "char s[900];@int i,j,n=0;for(i=2;i<900;i++)if(!s[i]){n++;for(j=i+i;j<900;j+=i)s[j]=1;}return n;"}, {"", "int d(int n){char big[3000];big[n]=n;return n?d(n-1)+big[n]:0;}@return d(15);"}, {"", "int h(int n,int f,int t,int v){if(!n)return 0;int c=h(n-1,f,v,t);putchar('0'+f);putchar('0'+t);return c+1+h(n-1,v,t,f);}@return h(5,1,3,2);"},
		{"", "int k=9;switch(3){k=1;case 3:k++;while(k<12){case 4:putchar('.');k++;}}return k;"}, {"", "int n=3;goto in;while(n<9){n+=2;in:putchar('0'+n);}return n;"}, {"", "int x=-7,y=2;return x/y*1000+x%y*100+(x>>1)+(x<<2)+((unsigned)x>>28);"}, {"", "char c=127;c++;unsigned char d=c;short s=c*300;unsigned short u=s;return c+d*2+s*3+u*5;"}, {"", "int m[3][4];@int i,j,s=0;for(i=0;i<3;i++)for(j=0;j<4;j++)m[i][j]=i*j+1;int(*p)[4]=m+1;for(i=0;i<4;i++)s+=p[0][i]*10+p[1][i]+(*(p-1))[i];return s;"}, {"abc", "int a[3],*p=a,*q;while(p<a+3)*p++=getchar();for(q=p;q>a;)putchar(*--q);return p-a+(q==a)*10;"},
		{"", "int i=2;return i+++i*i;"}, {"", "int i=1;i+=(i=5);return i;"}, {"", "int f(void){putchar('f');return 1;}int g(void){putchar('g');return 0;}@return f()&&g()||f()&&f()?g()?f():7:g();"}, {"", "enum E{A,B=7,C,D=-1};@switch(C){case A:return 1;case B+1:return D;default:return 2;}"}, {"", "int v;void t(void){v++;}void u(void){v+=10;}@v?t():u();v?t():u();v>5?(void)0:u();return v;"}, {"", "struct P{struct P*n;int k;};struct P r[9];@int i;for(i=0;i<9;i++){r[i].n=&r[(i*4+1)%9];r[i].k=i*i;}struct P*p=r;int s=0;for(i=0;i<20;i++){s=s*3+p->k;p=p->n;}return s;"}, {"", "unsigned h=2166136261u;char*s=\"the quick brown fox\";while(*s){h^=*s++;h*=16777619;}return h;"},
		{"", "int ack(int m,int n){return m?n?ack(m-1,ack(m,n-1)):ack(m-1,1):n+1;}@return ack(2,3);"}, {"", "int z(int a,int b,int c,int d,int e,int f,int g,int h){return a?a*2+z(b,c,d,e,f,g,h,0):h-1;}@return z(1,2,3,4,5,6,7,8);"},
	}
}

func TestSourcesByHandOnTheMachine(t *testing.T) {
	t.Parallel()
	for i, c := range sourcesByHand() {
		r := rand.New(rand.NewSource(int64(i)))
		if !onTheMachine(t, r, whole(c.text), c.in, 200000) {
			t.Errorf("%q does not end as it means", c.text)
		}
	}
}

// Promise 15, for each stack from none to what is enough.
func TestEachStackOnTheMachine(t *testing.T) {
	t.Parallel()
	for _, c := range sourcesByHand() {
		text := whole(c.text)
		meant, _, _, _ := impl.Meaning([]byte(text), []byte(c.in), 200000)
		ir, _, _, _ := impl.Lower([]byte(text))
		m, ok := newOnMachine(t, ir, text, c.in, meant)
		if !ok || m.need > impl.MaxStack {
			t.Errorf("%q is too great, or needs %d", c.text, m.need)
			continue
		}
		by, last := max(16, m.need/40/16*16), impl.EndStack
		for stack := 0; stack <= m.need+by; stack += by {
			o := m.withLess(t, impl.MaxFuel, stack)
			if o.End == impl.EndFuel || stack >= m.need && o.End != impl.EndExit || last == impl.EndExit && o.End != impl.EndExit {
				t.Errorf("%q with %d of %d: %v", c.text, stack, m.need, o)
			}
			last = o.End
		}
	}
}

// Promise 16, for each fuel of the machine, and for some of Meaning.
func TestEachFuelOnTheMachine(t *testing.T) {
	t.Parallel()
	endless := []struct{ in, text string }{
		{"", "for(;;)putchar('a');"}, {"xyz", "int c;for(;;){c=getchar();putchar(c);}"}, {"", "int i=0;l:putchar('0'+i%10);i++;goto l;"}, {"", "void f(int n){putchar('0'+n%10);f(n+1);}@f(0);return 1;"}, {"", "int i;for(i=0;;i++){int j;for(j=0;j<i;j++)putchar('*');putchar('\\n');}"}, {"", "int g(int n){putchar('g');return n?g(n-1):0;}@int i=0;while(1)g(i++%4);"}, {"", "for(;;);"}, {"", "putchar('h');putchar('i');do;while(1);"},
	}
	for _, c := range append(endless, sourcesByHand()[:20]...) {
		text := []byte(whole(c.text))
		outs := [][]byte{}
		for _, fuel := range []int{0, 1, 2, 3, 5, 8, 13, 21, 34, 55, 89, 144, 300, 1000, 5000} {
			if o, _, _, _ := impl.Meaning(text, []byte(c.in), fuel); o.End != impl.EndUndefined {
				outs = append(outs, o.Out)
			}
		}
		image, _, _, _ := impl.Build(text, 4096)
		m, _ := impl.StartMachine(image, []byte(c.in))
		for fuel := 0; fuel < 3000; fuel += 1 + fuel/60 {
			o, code, _, _ := impl.Exec(text, []byte(c.in), fuel, 4096)
			if ran := impl.RunMachine(m, fuel); code != 0 || !bytes.Equal(o.Out, ran.Out) || o.Steps != ran.Steps {
				t.Errorf("%q with %d: %v, %d", c.text, fuel, o, code)
			}
			for _, out := range outs {
				writesAsMeant(t, c.text, o.Out, out)
			}
		}
	}
}

// Promise 14's bound of steps, for sources in which one step of Meaning takes as many of the machine as could be found.
func TestCostsOnTheMachine(t *testing.T) {
	t.Parallel()
	saved := "int f(int a){int b=a+1,c=b+1,d=c+1,e=d+1,g=e+1,h=g+1,i=h+1,j=i+1,k=j+1,l=k+1,m=l+1,n=m+1;same(a);return a+b+c+d+e+g+h+i+j+k+l+m+n;}"
	for _, text := range []string{
		"", "return 0;", ";", "exit(1);", "switch(899){" + many(380, "case #:;") + "}", "int i;for(i=0;i<50;i++)switch(i+330){" + many(380, "case #:;") + "}return i;", "int same(int a){return a;}" + saved + "@int i,s=0;for(i=0;i<30;i++)s+=f(i);return s;", "void f(void){}@int i;for(i=0;i<300;i++)f();", "void f(void){return;}@f();f();f();", "int a[500]={1};return a[499];", "struct S{char c[999];};struct S x,y;@x=y;y=x;", "char a[3000];char b[3000];b[2999]=1;return b[2999];", "int i=5;goto l;{{{{{{l:i++;}}}}}}return i;", "int i=0;l:if(++i<90)goto l;return i;", "putchar('a');putchar('b');", "return 1&&2&&3&&4||5;", "int a=1;" + strings.Repeat("a=a*3+a/2;", 60) + "return a;",
	} {
		r := rand.New(rand.NewSource(1))
		if !onTheMachine(t, r, whole(text), "", 200000) {
			t.Errorf("%.100q does not end as it means", text)
		}
	}
}
