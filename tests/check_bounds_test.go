package tests

import (
	"strings"
	"testing"

	"loop.example/s01681/impl"
)

// The codes 1 to 11 are Parse's, with its places, whatever else is wrong.
func TestCodesOfParseInCheck(t *testing.T) {
	long := strings.Repeat("a", impl.MaxName+1)
	for text, code := range map[string]int{
		"#": 2, "12x": 2, "/* x": 3, "\"x": 4, "'": 4, `"\q"`: 5, "4294967296": 6, "09": 6, "''": 7, "'ab'": 7, long: 8, "\"" + strings.Repeat("s", impl.MaxString+1) + "\"": 8, "int": 10, ")": 10,
	} {
		for _, front := range []string{"", "int a=nil;\n  ", "void a;int a;", "int main(void){return 0;}\n"} {
			if text == "int" {
				says(t, code, front+text+"@")
			} else {
				says(t, code, front+"@"+text)
			}
		}
	}
	says(t, 10, "int f(void){return nil;}int @int;")
	says(t, 10, "typedef int F(void);F f@{}")
	says(t, 10, "int main(void){return nil;@")
	says(t, 10, "int main(void){1=2;}}"[:20]+"@}")
	says(t, 11, "@int f(void){"+strings.Repeat(";", impl.MaxNodes)+"nil;}")
	says(t, 11, "@int a="+strings.Repeat("-", 1)+strings.Repeat(" -", impl.MaxTall)+"nil;")
	says(t, 1, "@"+filled("int a=nil;", "int b;", impl.MaxSource+1))
	says(t, 9, strings.Repeat("a ", impl.MaxTokens)+"@a")
	says(t, 20, filled("int a=@nil;", "int b;", impl.MaxSource))
}

// deep makes a source around count times the same.
func deep(begin, one, end, close string, count int) string {
	return begin + strings.Repeat(one, count) + end + strings.Repeat(close, count)
}

func TestTallAndGreatSources(t *testing.T) {
	most := impl.MaxTall - 6
	for _, c := range []struct {
		code                    int
		begin, one, end, close_ string
		behind                  string
	}{
		{0, "int main(void){return ", "- ", "1", "", ";}"}, {0, "int main(void){return ", "(char)", "1", "", ";}"}, {0, "int main(void){return ", "!", "1", "", ";}"}, {0, "int main(void){return ", "sizeof ", "1", "", ";}"},
		{0, "int main(void){return ", "(", "1", ")", ";}"}, {0, "int main(void){return 1", "+1", "", "", ";}"}, {0, "int main(void){return ", "1+(", "1", ")", ";}"}, {0, "int main(void){return ", "1?2:", "3", "", ";}"}, {0, "int main(void){int i;i=", "i=", "3", "", ";}"}, {0, "int main(void){return 1", ",1", "", "", ";}"},
		{0, "int main(void){", "{", "", "}", "}"}, {0, "int main(void){", "if(1)", ";", "", "}"}, {0, "int main(void){", "while(1)", "break;", "", "}"}, {0, "int main(void){", "for(int i=1;i;i++)", "continue;", "", "}"}, {0, "int main(void){", "switch(1)", ";", "", "}"}, {0, "int main(void){", "do ", ";", "while(1);", "}"}, {0, "int main(void){", "switch(1)default:", ";", "", "}"},
		{0, "int ", "*", "a", "", ";int main(void){return 0;}"}, {0, "int a", "[1]", "", "", ";int main(void){return 0;}"}, {0, "int a", "[1]", "=", "", "{1};int main(void){return 0;}"},
		{0, "int(", "*(", "a", ")", ")(void);int main(void){return 0;}"}, {0, "int a=1", "*1", "", "", ";int main(void){return 0;}"}, {0, "int f(int x){return ", "f(", "1", ")", ";}int main(void){return 0;}"}, {0, "int f(void){return(", "*", "f)()", "", ";}int main(void){return 0;}"}, {0, "struct S{struct S*n;};int main(void){struct S*s;return s", "->n", "==0", "", ";}"},
		{22, "void a@", "[1]", "[1]", "", ";int main(void){return 0;}"},
	} {
		// Half as many where each is two steps deep.
		count := most
		for {
			text := deep(c.begin, c.one, c.end, c.close_, count) + c.behind
			if c.code != 0 {
				text = strings.Replace(text, "@", "", 1)
			}
			if _, code, _, _ := impl.Parse([]byte(text)); code != 11 {
				break
			}
			count--
		}
		if count < impl.MaxTall/3 {
			t.Fatalf("%q: %d", c.one, count)
		}
		if c.one == "[1]" && c.end == "=" {
			text := c.begin + strings.Repeat("[1]", 100) + "=" + strings.Repeat("{", 100) + "1" + strings.Repeat("}", 100) + ";" + emptyMain
			says(t, 0, text)
			text = c.begin + strings.Repeat("[1]", 100) + "=" + strings.Repeat("{", 100) + "@{1}" + strings.Repeat("}", 100) + ";" + emptyMain
			says(t, 28, text)
			continue
		}
		if c.code == 22 {
			says(t, 22, "void a"+strings.Repeat("[1]", 150)+"@[1];"+emptyMain)
			continue
		}
		text := deep(c.begin, c.one, c.end, c.close_, count) + c.behind
		if _, code, line, col := check(t, text); code != 0 {
			t.Errorf("%.60q: %d %d %d", text, code, line, col)
		}
	}
	// An error far down.
	says(t, 20, "int main(void){return "+strings.Repeat("-(", 150)+"@nil"+strings.Repeat(")", 150)+";}")
	says(t, 20, "int main(void)"+strings.Repeat("{", 150)+"@nil;"+strings.Repeat("}", 150))
	says(t, 29, "int main(void){"+strings.Repeat("if(1)", 150)+"@break;}")
	says(t, 24, "struct S{int a;};struct S s;int main(void){return "+strings.Repeat("-(", 150)+"@-s"+strings.Repeat(")", 150)+";}")
}

func TestSourcesAsGreatAsTheyCanBe(t *testing.T) {
	says(t, 0, "int main(void){"+strings.Repeat(";", impl.MaxNodes-6)+"}")
	says(t, 0, "int main(void){int i;"+strings.Repeat("i;", 1300)+"return 0;}")
	says(t, 0, "int a[]={"+strings.Repeat("1,", 2900)+"};"+emptyMain)
	says(t, 0, "int main(void){int a[]={"+strings.Repeat("1,", 2900)+"};}")
	says(t, 0, "enum E{"+many(1900, "A#,")+"};"+emptyMain)
	says(t, 0, many(290, "int f#(void){return 1;}")+emptyMain)
	says(t, 31, "int @f0(void)"+many(900, ",f#(void)")+";"+emptyMain)
	says(t, 0, many(300, "struct S#{int a;};")+emptyMain)
	says(t, 0, "int main(void){switch(1){"+many(900, "case #:;")+"}}")
	says(t, 29, "int main(void){switch(1){"+many(900, "case #:;")+"@case 899:;}}")
	says(t, 0, "int main(void){"+many(900, "goto l#;")+many(900, "l#:;")+"}")
	says(t, 29, "int main(void){"+many(900, "goto l#;")+"@goto l;"+many(900, "l#:;")+"}")
	says(t, 0, many(impl.MaxGlobals, "int a#;")+"int main(void){"+many(impl.MaxLocals, "int a#;")+"}")
	says(t, 0, many(250, "typedef int T#;")+"T0 a;T249 b;"+emptyMain)
	says(t, 0, "char a[]=\""+strings.Repeat("\\377", impl.MaxString)+"\";int main(void){char a[]=\""+strings.Repeat("\\377", impl.MaxString)+"\";}")
}
