package tests

import (
	"strings"
	"testing"

	"loop.example/s01681/impl"
)

func answers(t *testing.T, text string, code, line, col int) {
	t.Helper()
	if _, gotCode, gotLine, gotCol := parse(t, text); gotCode != code || gotLine != line || gotCol != col {
		t.Errorf("%.300q: %d, %d, %d, not %d, %d, %d", text, gotCode, gotLine, gotCol, code, line, col)
	}
}

func TestCodesOfLexInParse(t *testing.T) {
	long := strings.Repeat("a", impl.MaxName+1)
	for text, code := range map[string]int{
		"@": 2, "12x": 2, "/* x": 3, "\"x": 4, "'": 4, `"\q"`: 5, "4294967296": 6, "09": 6, "''": 7, "'ab'": 7, long: 8, "\"" + strings.Repeat("s", impl.MaxString+1) + "\"": 8,
	} {
		answers(t, text, code, 1, 1)
		answers(t, "int a = \n  "+text, code, 2, 3)
		answers(t, "int a;\nint b = "+text+"\n;", code, 2, 9)
		// A fault of Lex comes ahead of a token that cannot stand, wherever both are.
		answers(t, "int int;\n"+text, code, 2, 1)
		answers(t, "} )\n\n "+text, code, 3, 2)
	}
	answers(t, filled("int a;", "int b;", impl.MaxSource), 0, 0, 0)
	answers(t, filled("int a;", "int b;", impl.MaxSource+1), 1, 1, 1)
	answers(t, filled(")", "@", impl.MaxSource+1), 1, 1, 1)
	answers(t, filled(")", "@", impl.MaxSource), 2, 1, impl.MaxSource)
	answers(t, strings.Repeat(")", impl.MaxTokens), 10, 1, 1)
	answers(t, strings.Repeat(")", impl.MaxTokens+1), 9, 1, impl.MaxTokens+1)
	answers(t, "int a[] = {"+strings.Repeat("1,", 2995)+"1};", 0, 0, 0)
	answers(t, "int a[] = {"+strings.Repeat("1,", 2996)+"1};", 9, 1, 6006)
}

func TestMisfitsAtOtherLines(t *testing.T) {
	answers(t, "int a\n\n  b;", 10, 3, 3)
	answers(t, "int f(void)\n{\n\treturn 1\n}\n", 10, 4, 1)
	answers(t, "/* \n */ int\n;", 10, 3, 1)
	// Of several the first is told.
	answers(t, "int int; ) ]", 10, 1, 5)
	answers(t, "int a = ;\nint b = ;", 10, 1, 9)
	// At the end the place is the TokEnd's.
	answers(t, "int", 10, 1, 4)
	answers(t, "int  ", 10, 1, 6)
	answers(t, "int\n", 10, 2, 1)
	answers(t, "int // a;", 10, 1, 10)
	answers(t, "int f(){\n  x;\n /* } */", 10, 3, 9)
	answers(t, "typedef", 10, 1, 8)
	answers(t, "struct S {int a;}", 10, 1, 18)
}

func TestTooGreatOrTall(t *testing.T) {
	// One node more or one step more each, at the bounds and beyond.
	for _, c := range []struct {
		begin, one, end string
		count           int
	}{
		{"int f(){", ";", "}", impl.MaxNodes - 5},
		{"int a = ", "- ", "1;", impl.MaxTall - 2},
		{"int a = ", "!", "1;", impl.MaxTall - 2},
		{"int a = ", "(int)", "1;", impl.MaxTall - 2},
		{"int a = ", "sizeof ", "1;", impl.MaxTall - 2},
		{"int a = ", "b = ", "1;", impl.MaxTall - 2},
		{"int a = ", "b ? c : ", "1;", impl.MaxTall - 2},
		{"int a = 1", "++", ";", impl.MaxTall - 2},
		{"int a = 1", "[2]", ";", impl.MaxTall - 2},
		{"int a = 1", "()", ";", impl.MaxTall - 2},
		{"int a = 1", ".b", ";", impl.MaxTall - 2},
		{"int a = 1", " + 1", ";", impl.MaxTall - 2},
		{"int a = (1", ", 1", ");", impl.MaxTall - 2},
		{"int ", "*", "a;", impl.MaxTall - 2},
		{"int a", "[]", ";", impl.MaxTall - 2},
		{"int a", "()", ";", impl.MaxTall - 2},
		{"int f(){", "if (1) ", ";}", impl.MaxTall - 3},
		{"int f(){", "l: ", ";}", impl.MaxTall - 3},
		{"int f(){", "while (1) ", ";}", impl.MaxTall - 3},
		{"int f(){", "for (;;) ", ";}", impl.MaxTall - 3},
		{"int f(){if (1) ;", " else if (1) ;", "}", impl.MaxTall - 4},
		{"int a", ", a", ";", impl.MaxNodes/2 - 2},
		{"struct S {int a", ", a", ";};", impl.MaxNodes/2 - 2},
		{"int f(int", ", int", ");", impl.MaxNodes/2 - 3},
	} {
		for more := -1; more <= 2; more++ {
			text := c.begin + strings.Repeat(c.one, c.count+more) + c.end
			if more <= 0 {
				answers(t, text, 0, 0, 0)
			} else {
				answers(t, text, 11, 1, 1)
			}
		}
		// A token that cannot stand comes ahead of what is too great.
		text := c.begin + strings.Repeat(c.one, c.count+9) + c.end
		answers(t, text+")", 10, 1, len(text)+1)
	}
	braces := func(deep int) string {
		return "int f()" + strings.Repeat("{", deep) + strings.Repeat("}", deep)
	}
	lists := func(deep int) string {
		return "int a = " + strings.Repeat("{", deep) + "1" + strings.Repeat("}", deep) + ";"
	}
	answers(t, braces(impl.MaxTall-1), 0, 0, 0)
	answers(t, braces(impl.MaxTall), 11, 1, 1)
	answers(t, lists(impl.MaxTall-2), 0, 0, 0)
	answers(t, lists(impl.MaxTall-1), 11, 1, 1)
	answers(t, braces(2900), 11, 1, 1)
	answers(t, lists(2900), 11, 1, 1)
	answers(t, strings.TrimSuffix(braces(2900), "}"), 10, 1, 5807)
}
