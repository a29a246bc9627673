package tests

import (
	"slices"
	"strings"
	"testing"

	"loop.example/s01681/impl"
)

func TestEachByteBetweenTwoLetters(t *testing.T) {
	for b := range 256 {
		middle := string([]byte{byte(b)})
		text := "a" + middle + "b"
		letter := b >= 'a' && b <= 'z' || b >= 'A' && b <= 'Z' || b >= '0' && b <= '9' || b == '_'
		switch {
		case letter:
			isOne(t, text, name(text))
		case strings.Contains(" \t\n\v\f\r", middle):
			isTwo(t, text)
		case b == '\'' || b == '"':
			_, code, line, col := lex(t, text)
			if code != 4 || line != 1 || col != 2 {
				t.Errorf("%q: %d, %d, %d", text, code, line, col)
			}
		case slices.Contains(strings.Fields(allSigns), middle):
			want := []impl.Token{at(name("a"), 1, 1), at(sign(middle), 1, 2), at(name("b"), 1, 3), at(impl.Token{}, 1, 4)}
			if got := lexed(t, text); !slices.Equal(got, want) {
				t.Errorf("%q: %v", text, got)
			}
		default:
			faultsWith(t, middle, 2)
			faultsWith(t, middle+"b", 2)
			if _, code, line, col := lex(t, text); code != 2 || line != 1 || col != 2 {
				t.Errorf("%q: %d, %d, %d", text, code, line, col)
			}
		}
	}
}

// isTwo asks that a text is the names a and b, with blanks between.
func isTwo(t *testing.T, text string) {
	t.Helper()
	got := lexed(t, text)
	if !slices.Equal(placeless(got), []impl.Token{name("a"), name("b"), {}}) {
		t.Errorf("%q: %v", text, got)
	}
}

func TestBlanksBetweenTwoLetters(t *testing.T) {
	for _, blank := range []string{
		"  ", " \t\n\v\f\r", "\r\n", "\n\n\n", "/**/", "/* */", "/***/", "/****/", "/*/*/", "/*//*/", "/* / */", "/* * */", "/* ** **/", "/*\n*/", "/*\n\n\r\t*/", "/*\"*/", "/*'*/", "/*\\*/", "/*@#\x00\xff*/",
		"/*//*/ ", "/* // */", "//\n", "// x\n", "///\n", "////\n", "// /*\n", "//*\n", "//*/\n", "// */\n", "// \\\n", "//\"\n", "//'\n", "//\r\n", "//\x00\xff\n", "// a // b\n", "/*a*//*b*/", "/*a*/ /*b*/", "/**/\n//\n/**/",
		"//\n//\n", "/*é*/", "/*\xc3*/", "//\xc3\n",
	} {
		isTwo(t, "a"+blank+"b")
		isTwo(t, blank+"a"+blank+"b"+blank)
	}
	for text, want := range map[string][]impl.Token{
		"a/ /b":       {name("a"), sign("/"), sign("/"), name("b")},
		"a/ *b":       {name("a"), sign("/"), sign("*"), name("b")},
		"a*/b":        {name("a"), sign("*"), sign("/"), name("b")},
		"a/**/*/b":    {name("a"), sign("*"), sign("/"), name("b")},
		"a/* /* */*/": {name("a"), sign("*"), sign("/")},
		"a=/**/=b":    {name("a"), sign("="), sign("="), name("b")},
		"</**/<=":     {sign("<"), sign("<=")},
		"a//b":        {name("a")},
		"a//b\nc":     {name("a"), name("c")},
		"a///*\nc*/":  {name("a"), name("c"), sign("*"), sign("/")},
		"a/=/*/*/b":   {name("a"), sign("/="), name("b")},
		"a/=//b":      {name("a"), sign("/=")},
		"in/**/t":     {name("in"), name("t")},
		"in//\nt":     {name("in"), name("t")},
		"1/**/2":      {integer(1, ""), integer(2, "")},
		"\"a\"\"b\"":  {str("a"), str("b")},
		"'a'//'":      {character('a')},
	} {
		if got := lexed(t, text); !slices.Equal(placeless(got), append(want, impl.Token{})) {
			t.Errorf("%q: %v", text, got)
		}
	}
}

func TestCommentsAtTheEnd(t *testing.T) {
	for _, comment := range []string{"//", "// x", "///", "//*", "// /* ", "// \"", "//\\", "//\n", "/**/", "/* */", "/***/", "/*//*/", "/*\n*/", "//\xff"} {
		for _, before := range []string{"", "a", "a ", "a;\n"} {
			got := lexed(t, before+comment)
			want := lexed(t, before)
			if !slices.Equal(placeless(got), placeless(want)) {
				t.Errorf("%q: %v", before+comment, got)
			}
		}
	}
}

func TestCommentsThatAreNotEnded(t *testing.T) {
	for _, text := range []string{"/*", "/* ", "/*/", "/*/ ", "/**", "/***", "/** /", "/* * /", "/*\n", "/*\n\n*", "/* // ", "/* /*", "/*\n/", "/* \"", "/*\\*", "/*@", "/* x = 1;\n y", "/*\xff"} {
		faultsWith(t, text, 3)
	}
	for text, col := range map[string]int{"a/*": 2, "a /*/": 3, "/**/ /*": 6, "/**//*": 5, "a//\n/*": 1, "/**/*/ /*": 8, "\"/*\"/*": 5} {
		if _, code, _, got := lex(t, text); code != 3 || got != col {
			t.Errorf("%q: %d at column %d", text, code, got)
		}
	}
}

func TestPlaces(t *testing.T) {
	for text, want := range map[string][][2]int{
		"a":                      {{1, 1}, {1, 2}},
		"a b":                    {{1, 1}, {1, 3}, {1, 4}},
		"\n":                     {{2, 1}},
		"\n\n":                   {{3, 1}},
		"a\nb":                   {{1, 1}, {2, 1}, {2, 2}},
		"a\n\n b\n":              {{1, 1}, {3, 2}, {4, 1}},
		"\ta\tb":                 {{1, 2}, {1, 4}, {1, 5}},
		"\t\t\ta":                {{1, 4}, {1, 5}},
		"a\rb":                   {{1, 1}, {1, 3}, {1, 4}},
		"a\r\nb":                 {{1, 1}, {2, 1}, {2, 2}},
		"a\n\rb":                 {{1, 1}, {2, 2}, {2, 3}},
		"\v\fa":                  {{1, 3}, {1, 4}},
		"/**/a":                  {{1, 5}, {1, 6}},
		"/*\n*/a":                {{2, 3}, {2, 4}},
		"/*\n\n\n  */ a /*\n*/b": {{4, 6}, {5, 3}, {5, 4}},
		"/*é*/a":                 {{1, 7}, {1, 8}},
		"/*\xff\x80*/a":          {{1, 7}, {1, 8}},
		"/*\nééé*/a":             {{2, 9}, {2, 10}},
		"// é\na":                {{2, 1}, {2, 2}},
		"a // x":                 {{1, 1}, {1, 7}},
		"a // x\n":               {{1, 1}, {2, 1}},
		"a // x\n\n b":           {{1, 1}, {3, 2}, {3, 3}},
		"//\n//\na":              {{3, 1}, {3, 2}},
		"\"é\" a":                {{1, 1}, {1, 6}, {1, 7}},
		"\"\xff\"a":              {{1, 1}, {1, 4}, {1, 5}},
		"'\xe9'a":                {{1, 1}, {1, 4}, {1, 5}},
		"\"\\n\"a":               {{1, 1}, {1, 5}, {1, 6}},
		"'\\n'a":                 {{1, 1}, {1, 5}, {1, 6}},
		"\"\t\"a":                {{1, 1}, {1, 4}, {1, 5}},
		"\"/*\"\na":              {{1, 1}, {2, 1}, {2, 2}},
		"<<=<<":                  {{1, 1}, {1, 4}, {1, 6}},
		"0x1F+2":                 {{1, 1}, {1, 5}, {1, 6}, {1, 7}},
		"int main() {\n  return 0;\n}\n": {
			{1, 1}, {1, 5}, {1, 9}, {1, 10}, {1, 12}, {2, 3}, {2, 10}, {2, 11}, {3, 1}, {4, 1},
		},
	} {
		got := [][2]int{}
		for _, tok := range lexed(t, text) {
			got = append(got, [2]int{tok.Line, tok.Col})
		}
		if !slices.Equal(got, want) {
			t.Errorf("%q: %v, not %v", text, got, want)
		}
	}
}

func TestPlacesOfFaults(t *testing.T) {
	for text, want := range map[string][3]int{
		"\n\n@":             {2, 3, 1},
		"\té":               {2, 1, 2},
		"\"é\" @":           {2, 1, 6},
		"/*\xff\n\xff*/ @":  {2, 2, 5},
		"a\r@":              {2, 1, 3},
		"a\r\n @":           {2, 2, 2},
		"// x\n /* y":       {3, 2, 2},
		"a\n /* y\n\n":      {3, 2, 2},
		"a = \"x\ny\";":     {4, 1, 5},
		"a\n= 'x":           {4, 2, 3},
		"a\n\"xyz\\q\"":     {5, 2, 1},
		"\n x 08":           {6, 2, 4},
		"\n x ''":           {7, 2, 4},
		"\n\n\n  12345x\n@": {2, 4, 3},
	} {
		_, code, line, col := lex(t, text)
		if got := [3]int{code, line, col}; got != want {
			t.Errorf("%q: %v, not %v", text, got, want)
		}
	}
}
