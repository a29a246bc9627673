package tests

import (
	"math/rand"
	"strings"
	"sync/atomic"
	"testing"

	"loop.example/s01681/impl"
)

// atBound sees that all of the compiler takes a source, and what it does.
func atBound(t *testing.T, text string) compiled {
	t.Helper()
	c := cc(t, text, "", 20000, impl.MaxStack)
	if c.ofText != (told{}) || c.ofIm != (told{}) || c.ofO != (told{}) || c.ofForm != (told{}) {
		t.Errorf("%.100q.. of %d bytes: %v, %v, %v, %v", text, len(text), c.ofText, c.ofIm, c.ofO, c.ofForm)
	}
	return c
}

// beyondBound sees that all of it has one code, at the place that an @ marks; Format has it when it is Lex's or Parse's.
func beyondBound(t *testing.T, code int, marked string) {
	t.Helper()
	text, line, col := unmarked(marked)
	c, want, ofForm := cc(t, text, "", 20000, impl.MaxStack), told{code, line, col}, told{}
	if code < 12 {
		ofForm = want
	}
	if c.ofText != want || c.ofIm != want || c.ofO != want || c.ofForm != ofForm {
		t.Errorf("%.100q.. of %d bytes: %v, %v, %v, %v, not %v", text, len(text), c.ofText, c.ofIm, c.ofO, c.ofForm, want)
	}
}

// Sources at each bound, and one beyond it: promise 19.
func TestSourcesAtTheBounds(t *testing.T) {
	t.Parallel()
	t.Run("bytes", func(t *testing.T) {
		atBound(t, filled(emptyMain, "", impl.MaxSource))
		atBound(t, filled("/*", "*/"+emptyMain, impl.MaxSource))
		beyondBound(t, 1, "@"+filled(emptyMain, "", impl.MaxSource+1))
		beyondBound(t, 1, "@"+filled("/*", "*/"+emptyMain, impl.MaxSource+1))
	})
	t.Run("tokens", func(t *testing.T) {
		// main has 10 beside the brackets.
		text := func(pairs int, behind string) string {
			return "int main(void){return " + strings.Repeat("(", pairs) + "1" + strings.Repeat(")", pairs) + behind + ";}"
		}
		atBound(t, text((impl.MaxTokens-10)/2, ""))
		beyondBound(t, 9, strings.Replace(text((impl.MaxTokens-10)/2, "+"), "}", "@}", 1))
		beyondBound(t, 9, strings.Replace(text((impl.MaxTokens-10)/2+1, ""), ";}", "@;}", 1))
	})
	t.Run("nodes", func(t *testing.T) {
		// An int, a function, the block, the definition and the unit are five.
		atBound(t, "int main(void){"+strings.Repeat(";", impl.MaxNodes-5)+"}")
		beyondBound(t, 11, "@int main(void){"+strings.Repeat(";", impl.MaxNodes-4)+"}")
	})
	t.Run("levels", func(t *testing.T) {
		// From the unit to the number: the definition, the block, the return.
		atBound(t, "int main(void){return "+strings.Repeat("- ", impl.MaxTall-4)+"1;}")
		beyondBound(t, 11, "@int main(void){return "+strings.Repeat("- ", impl.MaxTall-3)+"1;}")
		atBound(t, "int main(void)"+strings.Repeat("{", impl.MaxTall-1)+strings.Repeat("}", impl.MaxTall-1))
		beyondBound(t, 11, "@int main(void)"+strings.Repeat("{", impl.MaxTall)+strings.Repeat("}", impl.MaxTall))
	})
	t.Run("names and strings", func(t *testing.T) {
		long, wide := strings.Repeat("n", impl.MaxName), strings.Repeat("s", impl.MaxString)
		atBound(t, "int "+long+";char*s=\""+wide+"\";int "+long[1:]+"(void){return "+long+";}int main(void){return "+long[1:]+"();}")
		beyondBound(t, 8, "int @"+long+"n;"+emptyMain)
		beyondBound(t, 8, "char*s=@\""+wide+"s\";"+emptyMain)
	})
	t.Run("locals", func(t *testing.T) {
		atBound(t, "int main(void){"+many(impl.MaxLocals, "int a#=#;")+"return a199;}")
		beyondBound(t, 32, "int main(void){"+many(impl.MaxLocals, "int a#;")+"int @b;}")
		// All at a time: most of them stand in the stack.
		c := atBound(t, "int main(void){"+many(impl.MaxLocals, "int a#=#;")+"return 0"+many(impl.MaxLocals-10, "+a#")+";}")
		if c.o.End != impl.EndExit || c.o.Value != 189*190/2 {
			t.Errorf("%v", c.o)
		}
	})
	t.Run("globals", func(t *testing.T) {
		atBound(t, many(impl.MaxGlobals, "int a#=#;")+"int main(void){return a499;}")
		beyondBound(t, 32, many(impl.MaxGlobals, "int a#;")+"int @b;"+emptyMain)
		atBound(t, "int main(void){"+many(impl.MaxGlobals, "\"#\";")+"}")
		beyondBound(t, 32, "int main(void){"+many(impl.MaxGlobals, "\"#\";")+"@\"\";}")
	})
	t.Run("objects", func(t *testing.T) {
		if c := atBound(t, "char a[60000];int main(void){a[59999]=3;return a[59999];}"); c.o.Value != 3 {
			t.Errorf("%v", c.o)
		}
		beyondBound(t, 32, "char a@[60001];"+emptyMain)
		if c := atBound(t, "int main(void){char a[60000];a[59999]=3;return a[59999];}"); c.o.Value != 3 {
			t.Errorf("%v", c.o)
		}
		beyondBound(t, 32, "int main(void){char a@[60001];}")
		atBound(t, "struct S{char a[59996];int b;};struct S s;"+emptyMain)
		beyondBound(t, 32, "@struct S{char a[59997];int b;};struct S s;"+emptyMain)
	})
	t.Run("fields and params", func(t *testing.T) {
		atBound(t, "struct S{"+many(impl.MaxFields, "int a#;")+"};struct S s;int main(void){return s.a99;}")
		beyondBound(t, 32, "@struct S{"+many(impl.MaxFields+1, "int a#;")+"};"+emptyMain)
		atBound(t, "int f("+many(impl.MaxParams-1, "int a#,")+"int b){return b;}int main(void){return f(1,2,3,4,5,6,7,8);}")
		beyondBound(t, 32, "int f@("+many(impl.MaxParams, "int a#,")+"int b){return b;}"+emptyMain)
	})
	t.Run("functions", func(t *testing.T) {
		c := atBound(t, many(impl.MaxFuns-1, "int f#(void){return #;}")+"int main(void){return f298();}")
		if c.o.Value != 298 {
			t.Errorf("%v", c.o)
		}
		beyondBound(t, 33, "@"+many(impl.MaxFuns, "int f#(void){return #;}")+emptyMain)
	})
	t.Run("registers", func(t *testing.T) {
		// !1 takes five registers, 1 one, and the end of main one.
		atBound(t, "int main(void){"+strings.Repeat("!1;", 399)+strings.Repeat("1;", 4)+"}")
		beyondBound(t, 33, "@int main(void){"+strings.Repeat("!1;", 399)+strings.Repeat("1;", 5)+"}")
	})
	t.Run("steps", func(t *testing.T) {
		// As many steps of one function as could be found with no more registers than there may be.
		loops := strings.Repeat(strings.Repeat("for(;;)", 60)+strings.Repeat("while(1)", 40)+";", 10) + strings.Repeat("return;", 650)
		atBound(t, "void f(void){"+loops+"}"+emptyMain)
		beyondBound(t, 33, "@void f(void){"+loops+"1;}"+emptyMain)
	})
	t.Run("bytes of data", func(t *testing.T) {
		atBound(t, "char a[60000],b[5536];"+emptyMain)
		beyondBound(t, 33, "@char a[60000],b[5537];"+emptyMain)
		atBound(t, "char a[60000],b[5532];int main(void){\"abc\";}")
		beyondBound(t, 33, "@char a[60000],b[5532];int main(void){\"abcd\";}")
	})
}

// anyCode sees that all of the compiler answers with a code and a place within a source or at its end.
func anyCode(t *testing.T, text string, stack int) int {
	t.Helper()
	c := cc(t, text, "input", 2000, stack)
	lines := strings.Split(text, "\n")
	for _, of := range []told{c.ofText, c.ofIm, c.ofO, c.ofForm} {
		if of.code != 0 && (of.line < 1 || of.line > len(lines) || of.col < 1 || of.col > len(lines[of.line-1])+1) {
			t.Errorf("%.1000q: %v is no place", text, of)
		}
	}
	_, code, line, col := impl.Check([]byte(text))
	if (code != 0) != (c.ofText.code != 0) && c.ofText.code < 33 || code != 0 && c.ofText != (told{code, line, col}) {
		t.Errorf("%.1000q: Check says %d, Compile %d", text, code, c.ofText.code)
	}
	return c.ofO.code
}

// Any bytes, and sources that are cut off or spoilt: promise 19.
func TestAnyBytesAreCompiled(t *testing.T) {
	var codes [40]atomic.Int32
	seeds(t, 700, func(t *testing.T, seed int) {
		r := rand.New(rand.NewSource(int64(seed) + 61))
		text := []string{madeRun(r, 100), madeProgram(r, 200), whole(sourcesByHand()[r.Intn(20)].text)}[seed%3]
		stack := []int{0, 64, 4096, 8, 65536}[seed%5]
		note := func(text string) { codes[anyCode(t, text, stack)].Add(1) }
		note(text)
		note(text[:r.Intn(len(text)+1)])
		note(text[r.Intn(len(text)):])
		// A few bytes changed, left out, or put in.
		for range 3 {
			spoilt := []byte(text)
			for range 1 + r.Intn(3) {
				at := r.Intn(len(spoilt))
				switch r.Intn(3) {
				case 0:
					spoilt[at] = byte(r.Intn(256))
				case 1:
					spoilt = append(spoilt[:at:at], spoilt[at+1:]...)
				case 2:
					spoilt = append(spoilt[:at:at], append([]byte("(){};*&-=,[]\"'0x/+ \n"[r.Intn(20):][:1]), spoilt[at:]...)...)
				}
			}
			note(string(spoilt))
		}
		random := make([]byte, r.Intn(80))
		for i := range random {
			random[i] = byte(r.Intn(256))
		}
		note(string(random))
		note(anySource(r, strings.Fields("int main ( void ) { return 0 ; } a b * & = , [ ] \"s\" 'c' struct S . -> ++ if else while for goto : ? switch case default enum typedef unsigned char sizeof")))
	})
	for _, code := range []int{0, 2, 4, 10, 20, 24, 34} {
		if codes[code].Load() == 0 {
			t.Errorf("none has the code %d", code)
		}
	}
}

// Trees that mean nothing in particular, and right ones that are changed in one node.
func TestAnyTreesAreCompiled(t *testing.T) {
	seeds(t, 500, func(t *testing.T, seed int) {
		r := rand.New(rand.NewSource(int64(seed) + 71))
		if text, ok := impl.Print(madeUp(r, 5, 3).tree()); ok {
			anyCode(t, string(text), 64)
		}
		tree, code, _, _ := impl.Parse([]byte(madeProgram(r, 0)))
		if code != 0 {
			return
		}
		g := grownOf(tree)
		newSpoiler(r, g).spoil()
		if text, ok := impl.Print(g.tree()); ok {
			anyCode(t, string(text), 4096)
		}
	})
}

// Sources as tall as they can be, of each kind.
func TestTallSourcesAreCompiled(t *testing.T) {
	t.Parallel()
	for _, c := range []struct{ begin, one, end, close, behind string }{
		{"int main(void){return ", "- ", "1", "", ";}"}, {"int main(void){return ", "(char)", "1", "", ";}"}, {"int main(void){return 1", "+1", "", "", ";}"}, {"int main(void){return ", "1+(", "1", ")", ";}"}, {"int main(void){int a=1;return ", "a-(", "a", ")", ";}"}, {"int main(void){return ", "1?2:", "3", "", ";}"}, {"int main(void){int i;return i=", "i=", "3", "", ";}"}, {"int main(void){return 1", ",1", "", "", ";}"}, {"int main(void){return 1", "&&1", "", "", ";}"}, {"int main(void){return ", "1||(", "1", ")", ";}"},
		{"int main(void){", "{", "", "}", "}"}, {"int main(void){", "if(1)", ";", "", "}"}, {"int main(void){", "while(1)", "return 4;", "", "}"}, {"int main(void){", "for(int i=1;i;i++)", "return i;", "", "}"}, {"int main(void){", "switch(1)default:", "break;", "", "}"}, {"int main(void){", "do ", ";", "while(0);", "}"}, {"int f(int x){return x+1;}int main(void){return ", "f(", "1", ")", ";}"}, {"int f(int x){return x+1;}int main(void){return ", "1+f(", "1", ")", ";}"}, {"int main(void){int a[1]={0};return a[", "a[", "0", "]", "];}"}, {"int a", "[1]", "", "", ";" + emptyMain}, {"int ", "*", "a", "", ";" + emptyMain},
	} {
		count := impl.MaxTall
		for code := 11; code == 11; count-- {
			_, code, _, _ = impl.Parse([]byte(deep(c.begin, c.one, c.end, c.close, count) + c.behind))
		}
		text := deep(c.begin, c.one, c.end, c.close, count+1) + c.behind
		if o := atBound(t, text).o; o.End != impl.EndExit {
			t.Errorf("%.60q: %v", text, o)
		}
		mean(t, text, "", 20000)
		beyondBound(t, 11, "@"+deep(c.begin, c.one, c.end, c.close, count+2)+c.behind)
	}
}
