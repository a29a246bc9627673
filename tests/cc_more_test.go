package tests

import (
	"bytes"
	"math/rand"
	"testing"

	"loop.example/s01681/impl"
)

// withMore is promise 22 for a source that ended with EndExit: with more stack and more fuel it does the same.
func (m onMachine) withMore(t *testing.T, r *rand.Rand, o impl.Outcome, stack int) {
	t.Helper()
	for _, more := range []struct{ fuel, stack int }{
		{o.Steps, stack}, {o.Steps + 1, stack}, {o.Steps, impl.MaxStack}, {o.Steps + r.Intn(impl.MaxFuel-o.Steps+1), stack + 16*r.Intn((impl.MaxStack-stack)/16+1)},
	} {
		if more.fuel > impl.MaxFuel {
			continue
		}
		if again := m.exec(t, more.fuel, more.stack); !sameOutcome(o, again) {
			t.Errorf("%.1500q, %q: with %d %v, with fuel %d and stack %d %v", m.text, m.in, stack, o, more.fuel, more.stack, again)
		}
	}
}

// goesFurther sees that a program which ended for want of fuel goes on with more: what it wrote is the beginning of what is
// written then, and its steps are all of its fuel.
func goesFurther(t *testing.T, name string, less, more impl.Outcome, fuel int) {
	t.Helper()
	switch {
	case less.End == impl.EndFuel && (less.Steps != fuel || more.Steps < less.Steps || !bytes.HasPrefix(more.Out, less.Out)),
		less.End != impl.EndFuel && !sameOutcome(less, more):
		t.Errorf("%.500q: with %d %v, with more %v", name, fuel, less, more)
	}
}

// Programs that end, that run out of stack and that run out of fuel, with each stack and fuel of some.
func TestMoreStackAndMoreFuel(t *testing.T) {
	t.Parallel()
	for _, c := range []struct{ in, text string }{
		{"", "return 3;"}, {"ab", "int c;while((c=getchar())!=-1)putchar(c);return 7;"}, {"", "int f(int n){putchar('0'+n);return n?f(n-1)+1:0;}@return f(6);"}, {"", "for(;;)putchar('x');"}, {"", "int f(int n){putchar('f');return f(n+1);}@return f(0);"}, {"", "char a[500];int i;for(i=0;i<40;i++)a[i]=i;return a[39];"}, {"", "int f(int n){char a[90];a[n]=n;putchar('a'+n);return n?f(n-1)+a[n]:0;}@return f(4);"}, {"", "void g(void){exit(5);}void f(int n){if(n)f(n-1);g();}@f(3);"},
		// Some that are undefined: they too do the same, as long as they ended with EndExit.
		{"", "int i;return i;"}, {"", "int a[3];return a[1];"}, {"", "int a[4];@return a[-1+5];"}, {"", "int*f(void){int x=5;return&x;}@return*f();"},
	} {
		text := []byte(whole(c.text))
		for stack := 0; stack <= 700; stack += 48 {
			outcomes := []impl.Outcome{}
			fuels := []int{0, 1, 5, 12, 20, 33, 50, 77, 100, 150, 222, 400, 800, 3000}
			for _, fuel := range fuels {
				o, _, _, _ := impl.Exec(text, []byte(c.in), fuel, stack)
				outcomes = append(outcomes, o)
			}
			for i := range outcomes {
				for j := i; j < len(outcomes); j++ {
					goesFurther(t, c.text, outcomes[i], outcomes[j], fuels[i])
				}
				if outcomes[i].End != impl.EndExit {
					continue
				}
				for _, more := range []int{stack + 16, stack + 160, 4096, impl.MaxStack} {
					if o, _, _, _ := impl.Exec(text, []byte(c.in), fuels[i], more); !sameOutcome(o, outcomes[i]) {
						t.Errorf("%q, fuel %d: with stack %d %v, with %d %v", c.text, fuels[i], stack, outcomes[i], more, o)
					}
				}
			}
		}
	}
}

// What ran out of stack goes on with more of it.
func TestMoreStackGoesOn(t *testing.T) {
	t.Parallel()
	text := []byte(whole("int f(int n){putchar('a'+n%26);return n?f(n-1)+1:0;}@return f(200);"))
	last := impl.Outcome{}
	for stack := 0; stack <= 202*16; stack += 16 {
		o, code, _, _ := impl.Exec(text, nil, impl.MaxFuel, stack)
		if code != 0 || !bytes.HasPrefix(o.Out, last.Out) || stack > 0 && len(o.Out) != max(0, stack/16-1) {
			t.Errorf("stack %d: %v behind %v", stack, o, last)
		}
		if wants := stack < 202*16; wants != (o.End == impl.EndStack) || !wants && o.Value != 200 {
			t.Errorf("stack %d: %v", stack, o)
		}
		last = o
	}
}

// RunIr with more fuel.
func TestMoreFuelForRunIr(t *testing.T) {
	t.Parallel()
	texts := []string{}
	for _, c := range sourcesByHand() {
		texts = append(texts, whole(c.text))
	}
	for seed := range 60 {
		texts = append(texts, madeRun(rand.New(rand.NewSource(int64(seed)+808)), []int{0, 30}[seed%2]))
	}
	for i, text := range append(texts, whole("for(;;)putchar('x');"), whole("int f(int n){putchar('f');return f(n+1);}@return f(0);"), whole("int*p=0;putchar('p');return*p;")) {
		ir, _, _, _ := impl.Lower([]byte(text))
		r := rand.New(rand.NewSource(int64(i)))
		full := impl.RunIr(ir, []byte("ab"), impl.MaxFuel/10)
		last, lastFuel := impl.RunIr(ir, []byte("ab"), 0), 0
		goesFurther(t, text, last, full, 0)
		for range 12 {
			fuel := lastFuel + r.Intn(max(2, (full.Steps+2-lastFuel)/3))
			o := impl.RunIr(ir, []byte("ab"), fuel)
			goesFurther(t, text, last, o, lastFuel)
			goesFurther(t, text, o, full, fuel)
			last, lastFuel = o, fuel
		}
	}
}
