package tests

import (
	"math/rand"
	"slices"
	"strconv"
	"strings"
	"testing"
	"unsafe"

	"loop.example/s01681/impl"
)

func TestTextsOfTokensByHand(t *testing.T) {
	for tok, want := range map[impl.Token]string{
		name("a"): "a", name("_"): "_", name("ints"): "ints", name("X9"): "X9", key("while"): "while", key("do"): "do", sign("+"): "+", sign(">>="): ">>=", sign("/"): "/",
		integer(0, ""): "0", integer(7, ""): "7", integer(10, ""): "10", integer(2147483647, ""): "2147483647", integer(0, "u"): "0u", integer(10, "u"): "10u", integer(2147483647, "u"): "2147483647u",
		integer(2147483648, "u"): "2147483648u", integer(4294967295, "u"): "4294967295u",
		character(0): `'\000'`, character('a'): `'a'`, character('\''): `'\''`, character('"'): `'"'`, character('\\'): `'\\'`, character(10): `'\n'`, character(9): `'\t'`, character(13): `'\r'`, character(7): `'\007'`, character(' '): `' '`,
		character('~'): `'~'`, character(31): `'\037'`, character(127): `'\177'`, character(128): `'\200'`, character(255): `'\377'`,
		str(""): `""`, str("a'b"): `"a'b"`, str("\"\\"): `"\"\\"`, str("\n\t\r\v"): `"\n\t\r\013"`, str("\x00\xff"): `"\000\377"`, str("int"): `"int"`, str("// x"): `"// x"`, str("é"): `"\303\251"`,
	} {
		for _, place := range [][2]int{{0, 0}, {1, 1}, {7, 30}, {-1, -9}, {1 << 40, -1 << 40}} {
			if got := impl.TokenText(at(tok, place[0], place[1])); got != want {
				t.Errorf("%+v at %v: %q, not %q", tok, place, got, want)
			}
		}
	}
}

// textBy is the text of a token that Lex can give, and empty for any other.
func textBy(tok impl.Token) string {
	switch tok.Kind {
	case impl.TokName, impl.TokKey:
		isKey := slices.Contains(strings.Fields(keyWords), tok.S)
		if tok.N == 0 && nameBy.FindString(tok.S) == tok.S && len(tok.S) <= impl.MaxName && isKey == (tok.Kind == impl.TokKey) {
			return tok.S
		}
	case impl.TokSign:
		if tok.N == 0 && slices.Contains(strings.Fields(allSigns), tok.S) {
			return tok.S
		}
	case impl.TokStr:
		if tok.N == 0 && len(tok.S) <= impl.MaxString {
			return impl.QuoteText(tok.S)
		}
	case impl.TokInt:
		return integerTextBy(tok)
	}
	return ""
}

func integerTextBy(tok impl.Token) string {
	switch {
	case tok.S == "c" && (tok.N >= 0 && tok.N <= 127 || tok.N >= 4294967168 && tok.N <= 4294967295):
		b := byte(tok.N)
		switch b {
		case '\'':
			return `'\''`
		case '"':
			return `'"'`
		}
		return "'" + quotedBy(b) + "'"
	case tok.S == "" && tok.N >= 0 && tok.N <= 2147483647, tok.S == "u" && tok.N >= 0 && tok.N <= 4294967295:
		return strconv.Itoa(tok.N) + tok.S
	}
	return ""
}

func checkTokenText(t *testing.T, tok impl.Token) {
	t.Helper()
	if got, want := impl.TokenText(tok), textBy(tok); got != want {
		t.Errorf("{%d %.60q %d}: %.80q, not %.80q", tok.Kind, tok.S, tok.N, got, want)
	}
}

func TestTextsOfEachKind(t *testing.T) {
	texts := append(strings.Fields(keyWords+" "+allSigns), "", "a", "x1", "_", "u", "U", "c", "uu", "1", "1a", "a b", " a", "a ", "a\n", "\na", "a/**/", "//", "/**/", "/*", "*/", "a//", "a;", "é", "aé", "a\x80", "\x00", "a\x00", "\"", "'", "\\", "'a'", "\"a\"", "+ ", " +", "+++", "< <", "-->", "...", "->*", "$", "@", "#",
		"int ", "int\t", "Int", "INT", "in", "long", strings.Repeat("a", impl.MaxName), strings.Repeat("a", impl.MaxName+1), strings.Repeat("\xff", impl.MaxString), strings.Repeat("\xff", impl.MaxString+1), strings.Repeat("a", impl.MaxSource), strings.Repeat("a", impl.MaxSource+1), strings.Repeat(" ", 50)+"a")
	numbers := []int{0, 1, -1, 7, 34, 39, 92, 97, 126, 127, 128, 129, 255, 256, 257, 2147483646, 2147483647, 2147483648, 4294967039, 4294967040, 4294967167, 4294967168, 4294967169, 4294967294, 4294967295, 4294967296, 4294967297, -2147483648, -128, 1<<63 - 1, -1 << 63}
	for kind := -2; kind <= 8; kind++ {
		for _, s := range texts {
			for _, n := range numbers {
				checkTokenText(t, impl.Token{Kind: kind, S: s, N: n, Line: n, Col: kind})
			}
		}
	}
	for _, kind := range []int{1 << 40, -1 << 63, 1<<63 - 1, impl.TokStr + 256, impl.TokInt + 1<<32} {
		checkTokenText(t, impl.Token{Kind: kind, S: "a"})
		checkTokenText(t, impl.Token{Kind: kind, N: 1})
	}
}

func TestTextsThatAreEmpty(t *testing.T) {
	for _, tok := range []impl.Token{
		{}, {S: "a"}, {N: 1}, {Kind: impl.TokEnd, Line: 3, Col: 4}, name("int"), name(""), name("1a"), name("a b"), name("+"), name(strings.Repeat("a", impl.MaxName+1)), {Kind: impl.TokName, S: "a", N: 1},
		key("a"), key(""), key("ints"), key("+"), {Kind: impl.TokKey, S: "int", N: 1}, sign(""), sign("a"), sign("@"), sign("+ "), sign("//"), sign("/*"), sign("<<<"), sign("()"), {Kind: impl.TokSign, S: "+", N: 1},
		integer(-1, ""), integer(2147483648, ""), integer(4294967295, ""), integer(4294967296, ""), integer(-1, "u"), integer(4294967296, "u"), integer(1, "U"), integer(1, "x"), integer(1, " "), integer(1, "uu"), integer(1, "cc"),
		integer(128, "c"), integer(255, "c"), integer(256, "c"), integer(-1, "c"), integer(-128, "c"), integer(4294967167, "c"), integer(4294967296, "c"), str(strings.Repeat("a", impl.MaxString+1)), {Kind: impl.TokStr, S: "a", N: 1},
		{Kind: 6, S: "a"}, {Kind: -1, S: "a"},
	} {
		if got := impl.TokenText(tok); got != "" {
			t.Errorf("%+v: %q", tok, got)
		}
	}
}

func TestTextsOfEachCharacter(t *testing.T) {
	for n := -300; n < 600; n++ {
		checkTokenText(t, integer(n, "c"))
		checkTokenText(t, integer(n+1<<32, "c"))
	}
}

// anyText is of bytes of all kinds, of a length near an edge at times.
func anyText(r *rand.Rand) string {
	text := make([]byte, [5]int{r.Intn(4), r.Intn(12), 39 + r.Intn(4), 198 + r.Intn(5), 1}[r.Intn(5)])
	for i := range text {
		text[i] = "abcXYZ_019<>=+-&|u"[r.Intn(18)]
		if r.Intn(2*len(text)) == 0 {
			text[i] = byte(r.Intn(256))
		}
	}
	return string(text)
}

func TestTextsOfManyTokens(t *testing.T) {
	r := rand.New(rand.NewSource(7))
	for range 60000 {
		tok := impl.Token{Kind: 1 + r.Intn(5), S: anyText(r), Line: r.Intn(9), Col: r.Intn(9)}
		if tok.Kind == impl.TokInt {
			tok.S, tok.N = [4]string{"", "u", "c", tok.S}[r.Intn(4)], int(r.Int63()>>(29+r.Intn(35)))-r.Intn(3)
		}
		checkTokenText(t, tok)
		text := impl.TokenText(tok)
		got, code, _, _ := impl.Lex([]byte(text))
		if text != "" && (code != 0 || len(got) != 2 || got[0] != at(tok, 1, 1)) {
			t.Errorf("%+v is written as %q, and read as %+v, %d", tok, text, got, code)
		}
	}
}

func TestTextsShareNoMemory(t *testing.T) {
	word := strings.Clone("word") + strconv.Itoa(7)
	for _, got := range []string{impl.TokenText(name(word)), impl.QuoteText(word)} {
		if within(word, got) {
			t.Errorf("%q shares memory with what was handed in", got)
		}
	}
	text := []byte(word + "+" + word)
	tokens, _, _, _ := impl.Lex(text)
	for _, tok := range tokens {
		if tok.S != "" && within(unsafe.String(&text[0], len(text)), tok.S) {
			t.Errorf("%v shares memory with the source", tok)
		}
	}
}

// within says whether a text lies in the memory of another.
func within(outer, inner string) bool {
	from := uintptr(unsafe.Pointer(unsafe.StringData(outer)))
	place := uintptr(unsafe.Pointer(unsafe.StringData(inner)))
	return place >= from && place < from+uintptr(len(outer))
}
