package tests

import (
	"bytes"
	"math/rand"
	"strings"
	"sync/atomic"
	"testing"

	"loop.example/s01681/impl"
)

// roomBy is what a call of a function takes of the stack.
func roomBy(f impl.IrFun) int {
	room := 0
	for _, size := range f.Slots {
		room += roundUp(size, 4)
	}
	return roundUp(room, 16)
}

// runsAsMeant sees that the code of a right source ends as the source does when that ends with EndExit, and has written
// the same: promise 11. It need not when it is too great for a code, or when there is not enough stack or fuel for it.
func runsAsMeant(t *testing.T, text, in string, meant impl.Outcome) (impl.Outcome, bool) {
	t.Helper()
	ir, code, line, col := impl.Lower([]byte(text))
	if code != 0 {
		core, _, _, _ := impl.Check([]byte(text))
		if code != 33 || line != 1 || col != 1 || !sameIr(ir, impl.Ir{}) || irOkBy(lowerBy(string(core))) == "" {
			t.Errorf("%.500q: %d, %d, %d", text, code, line, col)
		}
		return impl.Outcome{}, false
	}
	allocOnce(t, ir)
	emitOnce(t, ir)
	o := impl.RunIr(ir, []byte(in), impl.MaxFuel)
	room := 0
	for _, f := range ir.Funs {
		room = max(room, roomBy(f))
	}
	// No value and no step is lowered to more than ten steps, but a switch to two for each case.
	cost := 10 + 2*strings.Count(text, "case")
	doesAsMeantOnce(t, ir, text, in, meant)
	switch {
	case meant.End != impl.EndExit:
		return o, false
	case o.End == impl.EndStack && meant.Depth*room > impl.MaxStack:
		return o, false
	case o.End == impl.EndFuel && meant.Steps*cost > impl.MaxFuel:
		return o, false
	case o.End != impl.EndExit || o.Value != meant.Value || !bytes.Equal(o.Out, meant.Out) || o.Depth != meant.Depth:
		t.Errorf("%.2000q, %q: %v, but it means %v", text, in, o, meant)
	}
	return o, true
}

// What a program that is not undefined has written with some fuel and what its code has written are one the beginning of
// the other.
func writesAsMeant(t *testing.T, text string, a, b []byte) {
	t.Helper()
	if !bytes.HasPrefix(a, b) && !bytes.HasPrefix(b, a) {
		t.Errorf("%.1500q: %.300q and %.300q", text, a, b)
	}
}

func TestMadeUpSourcesRunAsMeant(t *testing.T) {
	var same, slotted atomic.Int32
	const count = 1500
	seeds(t, count, func(t *testing.T, seed int) {
		r := rand.New(rand.NewSource(int64(seed) + 77777))
		text := madeRun(r, []int{0, 0, 0, 100}[seed%4])
		in := "some input"[:r.Intn(11)]
		meant, code, _, _ := impl.Meaning([]byte(text), []byte(in), 60000)
		if code != 0 {
			t.Errorf("%.500q: %d", text, code)
			return
		}
		ran, ok := runsAsMeant(t, text, in, meant)
		same.Add(int32(oneIf(ok)))
		if seed%3 == 0 {
			ir := lowered(t, text)
			runIr(t, ir, in, 5000)
			if meant.End != impl.EndUndefined && ran.End != impl.EndNone {
				writesAsMeant(t, text, meant.Out, runIr(t, ir, in, r.Intn(ran.Steps+1)).Out)
			}
			for _, f := range ir.Funs {
				slotted.Add(int32(oneIf(len(f.Slots) > 0)))
			}
		}
	})
	if same.Load() < count*7/10 || slotted.Load() < 100 {
		t.Errorf("%d ran as they mean, %d with slots", same.Load(), slotted.Load())
	}
}

// Sources of the maker for Check, and spoilt ones: Lower has Check's code, 33, or a valid code.
func TestMadeUpSourcesAreLowered(t *testing.T) {
	var codes [40]atomic.Int32
	seeds(t, 1200, func(t *testing.T, seed int) {
		r := rand.New(rand.NewSource(int64(seed) + 5))
		text := madeProgram(r, []int{0, 400, 150, 60}[seed%4])
		switch seed % 3 {
		case 1:
			text = madeRun(r, 100)
			at := r.Intn(len(text))
			text = text[:at] + text[min(len(text), at+1+r.Intn(3)):]
		case 2:
			tree, code, _, _ := impl.Parse([]byte(text))
			if code != 0 {
				break
			}
			g := grownOf(tree)
			newSpoiler(r, g).spoil()
			if spoilt, ok := impl.Print(g.tree()); ok {
				text = string(spoilt)
			}
		}
		ir, code, _, _ := lower(t, text)
		codes[code].Add(1)
		if code == 0 {
			runIr(t, ir, "in", 2000)
			meant, _, _, _ := impl.Meaning([]byte(text), []byte("in"), 3000)
			runsAsMeant(t, text, "in", meant)
		}
	})
	if codes[0].Load() < 300 || codes[20].Load() == 0 || codes[24].Load() == 0 || codes[10].Load() == 0 {
		t.Errorf("%d are right", codes[0].Load())
	}
}

// Any bytes at all have a code and a place.
func TestAnyBytesAreLowered(t *testing.T) {
	t.Parallel()
	for seed := range 400 {
		r := rand.New(rand.NewSource(int64(seed)))
		text := []byte(madeProgram(r, 200))
		for range 1 + r.Intn(4) {
			text[r.Intn(len(text))] = byte(r.Intn(256))
		}
		lower(t, string(text))
		lower(t, string(text[:r.Intn(len(text))]))
		any := make([]byte, r.Intn(60))
		for i := range any {
			any[i] = byte(r.Intn(256))
		}
		lower(t, string(any))
	}
}

// What does not hang on blanks, comments and brackets.
func TestLowerIgnoresBlanks(t *testing.T) {
	t.Parallel()
	for seed := range 150 {
		r := rand.New(rand.NewSource(int64(seed)))
		text := madeRun(r, 0)
		tree, code, _, _ := impl.Parse([]byte(text))
		if code != 0 {
			t.Fatalf("%q: %d", text, code)
		}
		printed, _ := impl.Print(tree)
		a, aCode, _, _ := impl.Lower([]byte(text))
		b, bCode, _, _ := impl.Lower(printed)
		if aCode != bCode || !sameIr(a, b) {
			t.Errorf("%.500q: %d, %d", text, aCode, bCode)
		}
	}
}

// Programs by hand that do something of everything, with their input.
func TestSourcesByHandRunAsMeant(t *testing.T) {
	for _, c := range []struct {
		value   int
		in, out string
		text    string
	}{
		{154, "", "", "char s[900];@int i,j,n=0;for(i=2;i<900;i++)if(!s[i]){n++;for(j=i+i;j<900;j+=i)s[j]=1;}return n;"}, {55, "", "", "int f(int n){return n<2?n:f(n-1)+f(n-2);}@return f(10);"}, {3, "abc", "cba", "int r(void){int c=getchar();if(c==-1)return 0;{int n=r();putchar(c);return n+1;}}@return r();"},
		{0, "hello", "HELLO", "@int c;while((c=getchar())!=-1)putchar(c>='a'&&c<='z'?c-32:c);return 0;"}, {6, "", "", "struct L{int v;struct L*n;};struct L a={1,0},b={2,&a},c={3,&b};@int s=0;struct L*p;for(p=&c;p;p=p->n)s+=p->v;return s;"}, {42, "", "", "int add(int a,int b){return a+b;}int mul(int a,int b){return a*b;}int(*t[2])(int,int)={add,mul};@return t[1](t[0](3,4),6);"}, {10, "", "", "struct S{int a[3];char c;};struct S f;struct S*g(struct S*p){struct S l=*p;l.a[1]+=5;f=l;return&f;}@struct S s={{1,2,3},'c'};return g(&s)->a[1]+s.a[2];"},
		{7, "", "", "@int a=5,*p=&a,**q=&p;**q+=2;return a;"}, {-1, "", "", "@char c=127;c++;return c<0?-1:1;"}, {255, "", "", "@unsigned char c=0;c--;return c;"}, {5, "", "..", "@int k=3;switch(k){default:k=0;case 3:putchar('.');k++;case 9:putchar('.');k++;}return k;"}, {9, "", "3579", "@int n=3;goto in;while(n<9){n+=2;in:putchar('0'+n);}return n;"}, {17, "", "", "@exit(17);return 1;"}, {12, "", "", "int n;void f(void){if(n<12){n++;f();}}@f();return n;"}, {4, "", "", "@short a[3]={1,2,3};short*p=a+2;return*p--+*p---*p;"}, {1, "", "", "@unsigned u=4000000000;return u>5&&-1>u||0;"},
		// Void in both arms of a condition, in one, and in none.
		{3, "", "ab", "int n;void a(void){putchar('a');n++;}void b(void){putchar('b');n+=2;}@1?a():b();0?a():b();return n;"}, {2, "", "b", "int n;void b(void){putchar('b');n+=2;}@1?(void)0:b();0?(void)0:b();return n;"}, {2, "", "b", "int n;void b(void){putchar('b');n+=2;}@1?b():(void)0;0?b():(void)0;return n;"}, {5, "", "", "@int x=4;x==4?(void)0:exit(1);x?(void)x++:(void)x--;return x;"},
	} {
		o := exitsOn(t, c.in, c.value, c.out, c.text)
		if _, ok := runsAsMeant(t, whole(c.text), c.in, o); !ok {
			t.Errorf("%s does not run", c.text)
		}
	}
}
