package tests

import (
	"slices"
	"strings"
	"testing"

	"loop.example/s01681/impl"
)

// runs sees what a main's body does on the machine with some stack, and fuel enough.
func runs(t *testing.T, end, value int, out string, text string) impl.Outcome {
	t.Helper()
	o := ran(t, whole(text), "", impl.MaxFuel, 4096)
	if o.End != end || o.Value != int(uint32(value)) || string(o.Out) != out {
		t.Errorf("%.300q: end %d, %d, %.100q, not %d, %d, %.100q", text, o.End, o.Value, o.Out, end, value, out)
	}
	return o
}

// Each End that the machine can have.
func TestEndsOfExec(t *testing.T) {
	t.Parallel()
	runs(t, impl.EndExit, 0, "", "")
	runs(t, impl.EndExit, -1, "a", "putchar('a');return -1;")
	runs(t, impl.EndExit, 1<<31, "", "return 2147483648;")
	runs(t, impl.EndExit, 7, "ab", "void f(void){putchar('b');exit(7);}@putchar('a');f();putchar('c');return 1;")
	runs(t, impl.EndExit, 258, "\x02", "exit(putchar(258));")
	runs(t, impl.EndFault, impl.FaultMemory, "x", "int*p=0;putchar('x');return*p;")
	runs(t, impl.EndFault, impl.FaultMemory, "", "*(int*)0=1;return 2;")
	runs(t, impl.EndFault, impl.FaultMemory, "", "int a[2];@return a[20000];")
	runs(t, impl.EndFault, impl.FaultAlign, "", "int a[2];@return*(int*)((char*)a+1);")
	runs(t, impl.EndFault, impl.FaultAlign, "yy", "short a[2];@putchar('y');putchar('y');*(short*)((char*)a+1)=3;return 0;")
	runs(t, impl.EndFault, impl.FaultPc, "p", "int(*f)(void);@putchar('p');return f();")
	runs(t, impl.EndFault, impl.FaultPc, "", "union U{int n;void(*f)(void);};@union U u;u.n=65538;u.f();return 0;")
	runs(t, impl.EndFault, impl.FaultOut, strings.Repeat("a", impl.MaxOut), "for(;;)putchar('a');")
	// The third word of each program is an ecall: with an eighth argument it is one of that number.
	called := "union U{int n;int(*f)(int,int,int,int,int,int,int,int);};@union U u;u.n=65544;putchar('u');return u.f(9,0,0,0,0,0,0,#);"
	runs(t, impl.EndFault, impl.FaultCall, "u", fill(called, 5))
	runs(t, impl.EndFault, impl.FaultCall, "u", fill(called, 0))
	runs(t, impl.EndExit, 9, "u", fill(called, 3))
	runs(t, impl.EndStack, 0, "u", fill(called, 4))
	runs(t, impl.EndStack, 0, "f", "int f(int n){return f(n+1)+1;}@putchar('f');return f(0);")
	runs(t, impl.EndStack, 0, "", "char a[5000];a[0]=1;return a[0];")
	o := runs(t, impl.EndFuel, 0, "z", "putchar('z');for(;;);")
	if o.Steps != impl.MaxFuel {
		t.Errorf("%d steps", o.Steps)
	}
}

// What a whole run takes, step by step: the call of main, five to begin it, one for the number, one to move it, four to
// leave, and two to end.
func TestStepsOfExec(t *testing.T) {
	t.Parallel()
	const steps = 1 + 5 + 1 + 1 + 3 + 2
	for fuel := range steps + 3 {
		want := impl.Outcome{End: impl.EndFuel, Steps: fuel}
		if fuel >= steps {
			want = impl.Outcome{End: impl.EndExit, Value: 9, Steps: steps}
		}
		if o := ran(t, whole("return 9;"), "", fuel, 16); !sameOutcome(o, want) {
			t.Errorf("fuel %d: %v, not %v", fuel, o, want)
		}
	}
	// A stack that is too small is seen ahead of anything else: the call, four, and two to end.
	if o := ran(t, whole("return 9;"), "", 100, 0); !sameOutcome(o, impl.Outcome{End: impl.EndStack, Steps: 1 + 4 + 2}) {
		t.Errorf("no stack: %v", o)
	}
	if o := ran(t, whole("return 9;"), "", 6, 0); !sameOutcome(o, impl.Outcome{End: impl.EndFuel, Steps: 6}) {
		t.Errorf("no stack, no fuel: %v", o)
	}
	// A number, its move, the call, three steps of putchar's own, and the move of what it gives.
	put := ran(t, whole("putchar('a');return 9;"), "", 100, 16)
	if want := (impl.Outcome{End: impl.EndExit, Value: 9, Out: []byte("a"), Steps: steps + 1 + 1 + 1 + 3 + 1}); !sameOutcome(put, want) {
		t.Errorf("%v, not %v", put, want)
	}
}

// Each fuel from none to all that a program needs.
func TestEachFuelOfExec(t *testing.T) {
	t.Parallel()
	text, in := whole("int c;while((c=getchar())!=-1){putchar(c);putchar('-');}return c;"), "abcd"
	full := ran(t, text, in, impl.MaxFuel, 64)
	if full.End != impl.EndExit || full.Value != 1<<32-1 || string(full.Out) != "a-b-c-d-" {
		t.Fatalf("%v", full)
	}
	for fuel := range full.Steps + 2 {
		o := ran(t, text, in, fuel, 64)
		switch {
		case fuel >= full.Steps && !sameOutcome(o, full):
			t.Errorf("fuel %d: %v, not %v", fuel, o, full)
		case fuel < full.Steps && (o.End != impl.EndFuel || o.Value != 0 || o.Steps != fuel || !strings.HasPrefix(string(full.Out), string(o.Out))):
			t.Errorf("fuel %d of %d: %v", fuel, full.Steps, o)
		}
	}
}

// Each stack from none to the first that is enough, which the frames say.
func TestEachStackOfExec(t *testing.T) {
	t.Parallel()
	for _, c := range []struct {
		need, value int
		in, text    string
	}{
		{16, 3, "", "return 3;"}, {16, 'q', "q", "return putchar(getchar());"}, {32, 4, "", "int f(void){return 4;}@return f();"}, {48, 5, "", "int g(void){return 5;}int f(void){return g();}@return f();"}, {32, 11, "", "int g(void){return 5;}int f(void){return 6;}@return f()+g();"}, {176, 9, "", "int f(int n){return n?f(n-1)+1:0;}@return f(9);"},
		{112, 1, "", "char a[100];a[99]=1;return a[99];"}, {16, 1, "", "char a[12];a[11]=1;return a[11];"}, {32, 1, "", "char a[13];a[12]=1;return a[12];"}, {16 + 208, 2, "", "int f(void){char a[200];a[0]=2;return a[0];}@return f();"}, {2064, 3, "", "char a[2050];a[2049]=3;return a[2049];"}, {16 + 3*2064, 3, "", "int f(int n){char a[2048];a[7]=n;return n?f(n-1)+a[7]-n+1:0;}@f(1);return f(2)+1;"},
		// What is not come to takes nothing.
		{16, 8, "", "int f(void){char a[3000];return 1;}@if(0)f();return 8;"}, {16 + 16, 8, "x", "int g(void){char a[300];return 1;}int f(int n){return n=='y'?g():8;}@return f(getchar());"}, {16 + 16 + 304, 1, "y", "int g(void){char a[300];return 1;}int f(int n){return n=='y'?g():8;}@return f(getchar());"},
		// The two in turn, and an end far down.
		{16 + 5*16, 1, "", "int odd(int n);int even(int n){return n?odd(n-1):1;}int odd(int n){return n?even(n-1):0;}@return even(4);"}, {16 + 6*16, 44, "", "void f(int n){if(n==0)exit(44);f(n-1);}@f(5);return 1;"},
	} {
		text := whole(c.text)
		full := ran(t, text, c.in, 10000, c.need)
		for stack := 0; stack <= c.need+64; stack += 16 {
			if c.need > 1000 && stack > 100 && stack < c.need-32 && stack%256 != 0 {
				continue
			}
			o := ran(t, text, c.in, 10000, stack)
			switch {
			case stack >= c.need && (!sameOutcome(o, full) || o.End != impl.EndExit || o.Value != c.value):
				t.Errorf("%q with %d of %d: %v, not %v", c.text, stack, c.need, o, full)
			case stack < c.need && (o.End != impl.EndStack || o.Value != 0 || !strings.HasPrefix(string(full.Out), string(o.Out))):
				t.Errorf("%q with %d of %d: %v", c.text, stack, c.need, o)
			}
		}
	}
	// As much as there is, and more than that.
	for text, end := range map[string]int{"char a[60000],b[5516];b[0]=7;return b[0];": impl.EndExit, "char a[60000],b[5536];b[0]=7;return b[0];": impl.EndStack, "char a[60000],b[60000];return 7;": impl.EndStack} {
		if o := ran(t, whole(text), "", 1000, impl.MaxStack); o.End != end {
			t.Errorf("%q: %v", text, o)
		}
	}
	great := whole(many(200, "char c#[60000];") + "return 7;")
	if o := ran(t, great, "", 1000, impl.MaxStack); o.End != impl.EndStack || o.Steps != 7 {
		t.Errorf("12000000 bytes: %v", o)
	}
}

// What an image has of a source.
func TestImagesOfSources(t *testing.T) {
	t.Parallel()
	c := cc(t, "char a=1;int b[2]={258,-1},*p=b+1;short s=3;int(*f)(void);char*q=\"hi\";int g(void){return 7;}"+emptyMain+"int(*h)(void)=g;", "", 100, 160)
	im := c.image
	if im.Entry != impl.CodeBase || im.Stack != 160 || len(im.Code) == 0 {
		t.Fatalf("%v", c)
	}
	// The label of g is behind what stands in front of the functions: 5 words, and 3 for each of three.
	g := impl.CodeBase + 4*14
	word := func(n int) []byte { return []byte{byte(n), byte(n >> 8), byte(n >> 16), byte(n >> 24)} }
	want := slices.Concat([]byte{1, 0, 0, 0, 2, 1, 0, 0, 255, 255, 255, 255}, word(impl.DataBase+8), []byte{3, 0, 0, 0, 0, 0, 0, 0}, word(impl.DataBase+28), []byte("hi\x00\x00"), word(g))
	// A string is one of the data, behind the pointer to it.
	if !slices.Equal(im.Data, want) {
		t.Errorf("%v, not %v", im.Data, want)
	}
	for i, w := range im.Code {
		if _, ok := impl.DecodeInst(w); !ok {
			t.Errorf("word %d, %d, is no instruction", i, w)
		}
	}
}
