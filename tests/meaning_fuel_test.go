package tests

import (
	"bytes"
	"math/rand"
	"strings"
	"sync/atomic"
	"testing"

	"loop.example/s01681/impl"
)

// goesOn sees that with more fuel a program does the same, and goes on: promise 10.
func goesOn(t *testing.T, text string, less, more impl.Outcome, lessFuel, moreFuel int) {
	t.Helper()
	ok := less.Steps <= lessFuel && more.Steps <= moreFuel && less.Steps <= more.Steps && less.Depth <= more.Depth && bytes.HasPrefix(more.Out, less.Out)
	// It came to its end, or was too deep, or else had no more fuel.
	if less.End != impl.EndFuel || less.Steps < lessFuel {
		ok = ok && sameOutcome(less, more)
	} else if less.Steps == lessFuel && more.End != impl.EndFuel {
		ok = ok && (more.Steps > lessFuel || less.Depth == impl.MaxCalls)
	}
	if !ok {
		t.Errorf("%.1000q: with %d %v, with %d %v", text, lessFuel, less, moreFuel, more)
	}
}

// atEachFuel runs a program with every fuel up to its Steps and one more.
func atEachFuel(t *testing.T, text, in string, end int) {
	t.Helper()
	full := mean(t, text, in, enough)
	if full.End != end {
		t.Errorf("%.500q: %v", text, full)
		return
	}
	core, _, _, _ := impl.Check([]byte(text))
	second := readBy(string(core))
	last := impl.Outcome{}
	for fuel := 0; fuel <= full.Steps+1; fuel++ {
		o, _, _, _ := impl.Meaning([]byte(text), []byte(in), fuel)
		if by := second.run(in, fuel); !sameOutcome(o, by) {
			t.Errorf("%.500q with %d: %v, by the second reading %v", text, fuel, o, by)
		}
		if fuel < full.Steps && (o.End != impl.EndFuel || o.Steps != fuel || o.Value != 0) {
			t.Errorf("%.500q with %d of %d: %v", text, fuel, full.Steps, o)
		}
		if fuel >= full.Steps && !sameOutcome(o, full) {
			t.Errorf("%.500q with %d of %d: %v, not %v", text, fuel, full.Steps, o, full)
		}
		if fuel > 0 {
			goesOn(t, text, last, o, fuel-1, fuel)
		}
		last = o
	}
}

func TestEachFuel(t *testing.T) {
	t.Parallel()
	for _, text := range []string{
		"return 0;", "", "int i=1;return i;", "exit(3);", "putchar('a');exit(putchar('b'));", "int a[5]={1,2};char c[9];return a[4];", "int i;for(i=0;i<3;i++)putchar('0'+i);return i;", "int i=3;while(i--)putchar('a');do putchar('b');while(++i<2);return i;",
		"int f(int n){char c[5];putchar('0'+n);return n?f(n-1):7;}@return f(3);", "struct S{int a[6];};struct S x,y;struct S*p(void){putchar('p');return&x;}struct S*q(void){putchar('q');return&y;}@*p()=*q();x=y;return x.a[5];", "int n=0;goto in;while(n<2){n++;in:putchar('0'+n);}switch(n){case 2:{{putchar('c');case 1:putchar('d');}}}return n;", "int f(int a,char b){return a+b;}int(*h)(int,char)=f;@int c,k=0;while((c=getchar())!=-1)k=h(k,c);return k;", "int a[3]={1,2,3},*p=a,s=0;while(p<a+3)s+=*p++;return s&&a[1]||!p?p-a:0;", "int i=0;l:if(i<2){int k[3];i++;goto l;}return i;",
	} {
		atEachFuel(t, whole(text), "xy", impl.EndExit)
	}
	for _, text := range []string{"putchar('a');return 1/0;", "int i;putchar('a');return i;", "int f(int n){int*p=0;putchar('f');return n?f(n-1):*p;}@return f(2);", "struct S{int a[6];};struct S x;@struct S*p=0;putchar('a');*p=x;", "int a[2];int i;for(i=0;i<3;i++)a[i]=i;return 0;"} {
		atEachFuel(t, whole(text), "", impl.EndUndefined)
	}
}

// What is counted by programs that end in the midst of something.
func TestStepsOfTheUndefined(t *testing.T) {
	for text, steps := range map[string]int{
		"1/0;": 2 + 3, "1/0+2;": 2 + 4, "2+1/0;": 2 + 5, "*(int*)0;": 2 + 2, "*(int*)0=1;": 2 + 3, "int i;i;": 1 + 1 + 3 + 1 + 2, "(int*)0+1;": 2 + 3, "int x;@&x+2;": 2 + 3, "int f(void){return 1/0;}@f();": 3 + 5, "(1/0)&&2;": 2 + 4, "while(1/0);": 2 + 3, "switch(1/0){}": 2 + 3, "return 1/0;": 2 + 3, "int(*p)(int);@p(1);": 2 + 4,
		// A copy counts its bytes when both places are known, ahead of looking at them.
		"struct S{int a[5];};struct S s;@*(struct S*)0=s;": 2 + 3 + 5, "struct S{int a[5];};struct S s;@s=*(struct S*)0;": 2 + 3 + 5, "struct S{int a[5];};struct S s;struct S*g;@s=g[1/0];": 2 + 1 + 1 + 1 + 2 + 3, "struct S{int a[5];};struct S s;@(&s)[1/0]=s;": 2 + 1 + 1 + 1 + 3,
	} {
		if o := mean(t, whole(text), "", enough); o.End != impl.EndUndefined || o.Steps != steps {
			t.Errorf("%q: %v, not %d", text, o, steps)
		}
	}
	// The bytes of a copy and of locals, as far as the fuel goes.
	for fuel, out := range map[int]string{4: "", 5: "", 9: "p", 12: "p"} {
		text := "struct S{int a[50];};struct S x,y;struct S*p(void){putchar('p');return&x;}@*p()=y;putchar('e');"
		if o := mean(t, whole(text), "", fuel); string(o.Out) != out || o.Steps != fuel {
			t.Errorf("fuel %d: %v", fuel, o)
		}
	}
}

// seeds does something with each of many numbers, some at a time.
func seeds(t *testing.T, count int, do func(t *testing.T, seed int)) {
	t.Helper()
	t.Run("seeds", func(t *testing.T) {
		const lanes = 8
		for lane := range lanes {
			t.Run("", func(t *testing.T) {
				t.Parallel()
				for seed := lane; seed < count && !t.Failed(); seed += lanes {
					do(t, seed)
				}
			})
		}
	})
}

// atSomeFuels holds what a right source means with less fuel against what it meant with all.
func atSomeFuels(t *testing.T, r *rand.Rand, text, in string, full impl.Outcome, most int) {
	t.Helper()
	core, _, _, _ := impl.Check([]byte(text))
	second := readBy(string(core))
	for range 4 {
		less := r.Intn(min(full.Steps+2, most))
		o, _, _, _ := impl.Meaning([]byte(text), []byte(in), less)
		if by := second.run(in, less); !sameOutcome(o, by) {
			t.Errorf("%.1000q with %d: %v, by the second reading %v", text, less, o, by)
		}
		goesOn(t, text, o, full, less, most)
	}
}

func TestMadeUpRuns(t *testing.T) {
	var ends [impl.EndUndefined + 1]atomic.Int32
	var wrote atomic.Int32
	seeds(t, 1600, func(t *testing.T, seed int) {
		r := rand.New(rand.NewSource(int64(seed)))
		text := madeRun(r, []int{0, 60, 20, 8}[seed%4])
		in := "some input"[:r.Intn(11)]
		most := []int{30000, 30000, 30000, 30000, 200}[seed%5]
		o := mean(t, text, in, most)
		ends[o.End].Add(1)
		wrote.Add(int32(oneIf(len(o.Out) > 0)))
		atSomeFuels(t, r, text, in, o, most)
	})
	for _, end := range []int{impl.EndExit, impl.EndUndefined, impl.EndFuel} {
		if ends[end].Load() < 100 {
			t.Errorf("%d programs end with %d", ends[end].Load(), end)
		}
	}
	if wrote.Load() < 500 {
		t.Errorf("%d programs have written", wrote.Load())
	}
}

// Right and wrong sources of the maker for Check, and spoilt ones: Meaning has Check's code, or means something.
func TestMadeUpMeanings(t *testing.T) {
	var right atomic.Int32
	seeds(t, 1200, func(t *testing.T, seed int) {
		r := rand.New(rand.NewSource(int64(seed)))
		text := madeProgram(r, []int{0, 400, 150, 60}[seed%4])
		switch seed % 3 {
		case 1:
			text = madeRun(r, 100)
			at := r.Intn(len(text))
			text = text[:at] + text[min(len(text), at+1+r.Intn(3)):]
		case 2:
			text = madeRun(r, 50)
			at := strings.LastIndex(text[:r.Intn(len(text))], " ") + 1
			text = text[:at] + []string{"-", "*", "0", "goto l1;", "gi", "gp", "&", "{", ";", "1+", "\"", "/*", "return"}[r.Intn(13)] + text[at:]
		}
		_, code, line, col := impl.Check([]byte(text))
		const most = 3000
		o, gotCode, gotLine, gotCol := meaning(t, text, "in", most)
		if code != gotCode || line != gotLine || col != gotCol {
			t.Errorf("%.1000q: %d, %d, %d, not %d, %d, %d", text, gotCode, gotLine, gotCol, code, line, col)
		}
		if code == 0 {
			right.Add(1)
			mean(t, text, "in", most)
			atSomeFuels(t, r, text, "in", o, most)
		}
	})
	if n := right.Load(); n < 300 || n > 1000 {
		t.Errorf("%d sources are right", n)
	}
}
