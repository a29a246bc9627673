package tests

import (
	"fmt"
	"strings"
	"testing"

	"loop.example/s01681/impl"
)

// tooGreat sees that a source is right, but too great for a code.
func tooGreat(t *testing.T, text string) {
	t.Helper()
	if _, code, _, _ := impl.Check([]byte(text)); code != 0 {
		t.Errorf("%.100q: Check says %d", text, code)
	}
	lowerSays(t, 33, "@"+text)
}

func TestFunctionsOfLower(t *testing.T) {
	// main is one of them.
	for _, count := range []int{1, 2, 299, 300, 301, 400} {
		text := many(count-1, "void f#(void){}") + emptyMain
		if count <= impl.MaxFuns {
			if ir := lowered(t, text); len(ir.Funs) != count {
				t.Errorf("%d: %d functions", count, len(ir.Funs))
			}
		} else {
			tooGreat(t, text)
			tooGreat(t, "\n \n"+text)
		}
	}
	// Those that are only declared, and the three, are none.
	lowered(t, many(299, "void f#(void);")+many(299, "void f#(void){}")+"int main(void){putchar(getchar());exit(0);}")
}

func TestRegistersOfLower(t *testing.T) {
	t.Parallel()
	// !1 takes five registers, 1 one, and the end of a function with a result one.
	for _, c := range []struct {
		text string
		regs int
	}{
		{"int main(void){" + strings.Repeat("!1;", 399) + strings.Repeat("1;", 4) + "}", 2000}, {"int main(void){" + strings.Repeat("!1;", 399) + strings.Repeat("1;", 5) + "}", 2001}, {"int main(void){" + strings.Repeat("!1;", 399) + strings.Repeat("1;", 3) + "}", 1999}, {"int main(void){" + strings.Repeat("!1;", 500) + "}", 2501},
		{"void f(void){" + strings.Repeat("!1;", 400) + "}" + emptyMain, 2000}, {"void f(void){" + strings.Repeat("!1;", 400) + "1;}" + emptyMain, 2001}, {"void f(int a,int b){" + strings.Repeat("!1;", 399) + "1;1;1;}" + emptyMain, 2000}, {"void f(int a,int b){" + strings.Repeat("!1;", 399) + "1;1;1;1;}" + emptyMain, 2001}, {"void f(int a){" + many(199, "int l#;") + strings.Repeat("!1;", 360) + "}" + emptyMain, 2000}, {"void f(int a){" + many(199, "int l#;") + strings.Repeat("!1;", 360) + "1;}" + emptyMain, 2001},
		// A param in a slot takes one more, a local in a slot none.
		{"void f(int a){&a;" + strings.Repeat("!1;", 399) + "1;1;}" + emptyMain, 2000}, {"void f(int a){&a;" + strings.Repeat("!1;", 399) + "1;1;1;}" + emptyMain, 2001}, {"void f(void){int a[5];" + strings.Repeat("!1;", 400) + "}" + emptyMain, 2000},
		// A condition makes one, with a value and without.
		{"void f(void){1?2:3;" + strings.Repeat("!1;", 399) + "}" + emptyMain, 2000}, {"void v(void){}void f(void){1?v():v();" + strings.Repeat("!1;", 399) + "1;1;}" + emptyMain, 2000}, {"void v(void){}void f(void){1?v():v();" + strings.Repeat("!1;", 399) + "1;1;1;}" + emptyMain, 2001},
	} {
		if c.regs > impl.MaxRegs {
			tooGreat(t, c.text)
			continue
		}
		most := 0
		for _, f := range lowered(t, c.text).Funs {
			most = max(most, f.Regs)
		}
		if most != c.regs {
			t.Errorf("%.60q: %d registers, not %d", c.text, most, c.regs)
		}
	}
	// One function too great among others, wherever it stands.
	great := "void g(void){" + strings.Repeat("!1;", 401) + "}"
	for _, text := range []string{great + emptyMain, emptyMain + great, "int a;void f(void){}" + great + emptyMain} {
		tooGreat(t, text)
	}
}

func TestStepsOfLower(t *testing.T) {
	t.Parallel()
	// Loops within each other take many steps for their registers.
	loops := func(count int, behind string) string {
		text := "void f(void){"
		for ; count > 0; count -= 100 {
			text += strings.Repeat("for(;;)", min(count, 100)*6/10) + strings.Repeat("while(1)", min(count, 100)*4/10) + ";"
		}
		return text + behind + "}" + emptyMain
	}
	ir := lowered(t, loops(1000, strings.Repeat("return;", 650)))
	if f := ir.Funs[0]; f.Regs != 2000 || len(f.Code) != 600*7+400*6+650+1 {
		t.Errorf("%d registers, %d steps", f.Regs, len(f.Code))
	}
	tooGreat(t, loops(1000, "1;"))
	// More steps than there may be.
	text := "\"" + strings.Repeat("s", impl.MaxString) + "\""
	core, code, _, _ := impl.Check([]byte("int main(void){" + many(9, "char a#[]="+text+";") + "}"))
	if steps := len(lowerBy(string(core)).Funs[0].Code); code != 0 || steps <= impl.MaxIr {
		t.Errorf("code %d, %d steps", code, steps)
	}
	tooGreat(t, "int main(void){"+many(9, "char a#[]="+text+";")+"}")
	tooGreat(t, "int main(void){int a[]={"+strings.Repeat("1,", 2000)+"};}")
	lowered(t, "int main(void){char a[]="+text+";}")
	lowered(t, "int a[]={"+strings.Repeat("1,", 2900)+"};"+emptyMain)
}

func TestDataOfLower(t *testing.T) {
	for _, c := range []struct {
		ok   bool
		text string
	}{
		{true, "char a[60000],b[5536];"}, {true, "char a[60000],b[5533];"}, {false, "char a[60000],b[5537];"}, {false, "char a[60000],b[60000];"}, {true, "char a[60000],b[5532],c;"}, {false, "char a[60000],b[5532],c,d;"}, {false, "char a[60000],b[5536],c;"}, {true, "char a[59997],b[5536];"}, {false, "char a[59997],b[5537];"}, {true, "int a[15000],b[1384];"}, {false, "int a[15000],b[1385];"}, {true, many(500, "char a#[128];")}, {false, many(500, "char a#[129];")}, {true, many(16, "int a#[1024];")}, {false, many(16, "int a#[1024];") + "char c;"},
		// Strings are data too.
		{true, "char a[60000],b[5532];void f(void){\"abc\";}"}, {false, "char a[60000],b[5532];void f(void){\"abcd\";}"}, {true, "char a[60000],b[5528],*c=\"x\";"}, {false, "char a[60000],b[5532],*c=\"x\";"}, {false, "char a[60000],b[5532];void f(void){\"\";\"\";}"},
	} {
		if c.ok {
			lowered(t, c.text+emptyMain)
		} else {
			tooGreat(t, c.text+emptyMain)
		}
	}
	if ir := lowered(t, many(impl.MaxGlobals, "char a#=#;")+emptyMain); len(ir.Data) != impl.MaxGlobals {
		t.Errorf("%d data", len(ir.Data))
	}
	ir := lowered(t, "void f(void){"+many(impl.MaxGlobals, "\"#\";")+"}"+emptyMain)
	if len(ir.Data) != impl.MaxGlobals || ir.Data[499].Name != "$499" || string(ir.Data[499].Bytes) != "499\x00" {
		t.Errorf("%d strings", len(ir.Data))
	}
	// As many Refs as there can be.
	ir = lowered(t, "int x,*a[1300]={"+strings.Repeat("&x,", 1300)+"};"+emptyMain)
	if len(ir.Data[1].Refs) != 1300 || ir.Data[1].Refs[1299].At != 5196 {
		t.Errorf("%d refs", len(ir.Data[1].Refs))
	}
	// The distance of an address is at most the size of an object.
	ir = lowered(t, "char a[60000],*p=a+60000;"+emptyMain)
	if ir.Data[1].Refs[0].N != impl.MaxObject {
		t.Errorf("%v", ir.Data[1].Refs)
	}
}

func TestSlotsOfLower(t *testing.T) {
	ir := lowered(t, "int main(void){"+many(impl.MaxLocals, "char a#[#+1];")+"}")
	if f := ir.Funs[0]; len(f.Slots) != impl.MaxSlots || f.Slots[199] != 200 || f.Regs != 1 {
		t.Errorf("%d slots", len(f.Slots))
	}
	ir = lowered(t, "void f(char a,char b,char c,char d,char e,char f,char g,char h){&a;&b;&c;&d;&e;&f;&g;&h;"+many(192, "int x#[15000];")+"}"+emptyMain)
	if f := ir.Funs[0]; len(f.Slots) != impl.MaxSlots || f.Slots[199] != 60000 || f.Params != 8 || f.Regs != 24 || len(f.Code) != 25 {
		t.Errorf("%d slots, %d registers", len(f.Slots), f.Regs)
	}
	// There is no room for them, but nobody calls it.
	if o := runIr(t, ir, "", 10); o.End != impl.EndExit {
		t.Errorf("%v", o)
	}
	// Locals that are greater than the stack: the code is valid, and ends with EndStack.
	ir = lowered(t, "int main(void){char a[60000],b[6000];return 3;}")
	if o := runIr(t, ir, "", 10); !sameOutcome(o, impl.Outcome{End: impl.EndStack}) {
		t.Errorf("%v", o)
	}
	ir = lowered(t, "int main(void){char a[60000],b[5536];return 3;}")
	if o := runIr(t, ir, "", 10); !sameOutcome(o, impl.Outcome{End: impl.EndExit, Value: 3, Steps: 2, Depth: 1}) {
		t.Errorf("%v", o)
	}
}

// Sources as tall and as great as they can be.
func TestTallSourcesAreLowered(t *testing.T) {
	t.Parallel()
	for _, c := range []struct{ begin, one, end, close, behind string }{
		{"int main(void){return ", "- ", "1", "", ";}"}, {"int main(void){return ", "(char)", "1", "", ";}"}, {"int main(void){return ", "!", "1", "", ";}"}, {"int main(void){return 1", "+1", "", "", ";}"}, {"int main(void){return ", "1?2:", "3", "", ";}"}, {"int main(void){int i;i=", "i=", "3", "", ";}"}, {"int main(void){return 1", ",1", "", "", ";}"}, {"int main(void){return 1", "&&1", "", "", ";}"}, {"int main(void){return ", "1||(", "1", ")", ";}"},
		{"int main(void){", "{", "", "}", "}"}, {"int main(void){", "if(1)", ";", "", "}"}, {"int main(void){", "if(1);else ", ";", "", "}"}, {"int main(void){", "while(1)", "break;", "", "}"}, {"int main(void){", "for(int i=1;i;i++)", "continue;", "", "}"}, {"int main(void){", "switch(1)", ";", "", "}"}, {"int main(void){", "do ", "continue;", "while(1);", "}"}, {"int main(void){", "switch(1)default:", "break;", "", "}"}, {"int main(void){", "switch(1)case 1:", ";", "", "}"}, {"int f(int x){return ", "f(", "1", ")", ";}int main(void){return 0;}"}, {"struct S{struct S*n;};int main(void){struct S*s;return s", "->n", "==0", "", ";}"}, {"int main(void){int a[1];return a[", "a[", "0", "]", "];}"},
	} {
		count := impl.MaxTall
		for code := 11; code == 11; count-- {
			_, code, _, _ = impl.Parse([]byte(deep(c.begin, c.one, c.end, c.close, count) + c.behind))
		}
		lowered(t, deep(c.begin, c.one, c.end, c.close, count+1)+c.behind)
	}
	for _, text := range []string{
		"int main(void){" + strings.Repeat(";", impl.MaxNodes-6) + "}", "int main(void){switch(1){" + many(400, "case #:;") + "}}", "int main(void){" + many(900, "goto l#;") + many(900, "l#:;") + "}", many(impl.MaxGlobals, "int a#;") + "int main(void){" + many(impl.MaxLocals, "int a#;") + "}", "char a[]=\"" + strings.Repeat("\\377", impl.MaxString) + "\";" + emptyMain, "int main(void){" + strings.Repeat("while(1)break;", 600) + "}",
	} {
		lowered(t, text)
	}
	// As many labels as in a switch of many cases.
	ir := lowered(t, "int main(void){int i=-1;next:i++;if(i==180)return i;switch(i){"+many(180, "case #:goto l#;")+"}"+many(180, "l#:if(i!=#)return 1000;goto next;")+"}")
	if o := runIr(t, ir, "", impl.MaxFuel); o.End != impl.EndExit || o.Value != 180 {
		t.Errorf("many labels: %v", o)
	}
}

// A function put behind a source leaves what stands in front of it as it was, but for new strings.
func TestLowerBehind(t *testing.T) {
	front := "int g=1;int f(int a){return a+g;}int main(void){char*s=\"x\";return f(2)+s[0];}"
	a := lowered(t, front)
	for i, behind := range []string{"void h(void){}", "int h(int a,int b){&a;while(a)b++;return b;}", "void h(void){f(1);main();}"} {
		b := lowered(t, front+behind)
		if len(b.Funs) != 3 || !sameIr(a, impl.Ir{Data: b.Data, Funs: b.Funs[:2]}) {
			t.Errorf("%d: %s", i, irText(b))
		}
	}
	if o := runIr(t, a, "", 100); o.Value != 3+'x' {
		t.Errorf("%s", fmt.Sprint(o))
	}
}
