package tests

import (
	"fmt"
	"slices"
	"strings"
	"testing"

	"loop.example/s01681/impl"
)

// escapes are the letters behind a \ and what they stand for.
var escapes = map[byte]byte{'n': 10, 't': 9, 'r': 13, 'a': 7, 'b': 8, 'f': 12, 'v': 11, '\\': '\\', '\'': '\'', '"': '"'}

// stands asks that a text stands for a byte, in a character and in a string.
func stands(t *testing.T, text string, b int) {
	t.Helper()
	isOne(t, "'"+text+"'", character(b))
	byItself := string([]byte{byte(b)})
	isOne(t, "\""+text+"\"", str(byItself))
	isOne(t, "\"q"+text+text+" \"", str("q"+byItself+byItself+" "))
}

func TestEachByteForItself(t *testing.T) {
	for b := range 256 {
		text := string([]byte{byte(b)})
		switch b {
		case '\n', '\\':
		case '\'':
			isOne(t, "\"'\"", str("'"))
			isOne(t, "\"a'b'\"", str("a'b'"))
		case '"':
			isOne(t, "'\"'", character('"'))
		default:
			stands(t, text, b)
		}
	}
}

func TestEachByteByDigits(t *testing.T) {
	for b := range 256 {
		for _, text := range []string{fmt.Sprintf("\\%o", b), fmt.Sprintf("\\%02o", b), fmt.Sprintf("\\%03o", b), fmt.Sprintf("\\x%x", b), fmt.Sprintf("\\x%X", b), fmt.Sprintf("\\x%02x", b), fmt.Sprintf("\\x%02X", b)} {
			stands(t, text, b)
		}
	}
}

func TestCharactersAtTheEdges(t *testing.T) {
	for text, n := range map[string]int{
		`'\0'`: 0, `'\x0'`: 0, `'\177'`: 127, `'\x7f'`: 127, "'\x7f'": 127, `'\200'`: 4294967168, `'\x80'`: 4294967168, "'\x80'": 4294967168,
		`'\377'`: 4294967295, `'\xff'`: 4294967295, "'\xff'": 4294967295, `'\376'`: 4294967294, "'\x00'": 0, "' '": 32, `'\''`: 39, `'"'`: 34, `'\"'`: 34, `'\\'`: 92,
	} {
		isOne(t, text, integer(n, "c"))
	}
}

func TestEachByteBehindABackslash(t *testing.T) {
	for b := range 256 {
		text := string([]byte{'\\', byte(b)})
		value, known := escapes[byte(b)]
		switch {
		case known:
			stands(t, text, int(value))
		case b >= '0' && b <= '7':
			stands(t, text, b-'0')
		case b == '\n':
			faultsWith(t, "'"+text+"'", 4)
			faultsWith(t, "\""+text+"\"", 4)
		default:
			faultsWith(t, "'"+text+"'", 5)
			faultsWith(t, "\""+text+"\"", 5)
			faultsWith(t, "\"ab"+text+"gh\"", 5)
		}
	}
}

func TestDigitsOfEscapes(t *testing.T) {
	for text, want := range map[string]string{
		`\1`: "\x01", `\12`: "\n", `\123`: "S", `\1234`: "S4", `\0000`: "\x000", `\377`: "\xff", `\3777`: "\xff7", `\18`: "\x018", `\128`: "\n8", `\19`: "\x019", `\08`: "\x008",
		`\78`: "\x078", `\1a`: "\x01a", `\60`: "0", `\x4`: "\x04", `\x41`: "A", `\x411`: "A1", `\x4g`: "\x04g", `\xaf`: "\xaf", `\xAF0`: "\xaf0", `\xfff`: "\xfff", `\x0a`: "\n", `\x00f`: "\x00f",
		`\n1`: "\n1", `\\n`: "\\n", `\\\\`: "\\\\", `\"\'`: "\"'", `\\x41`: "\\x41", `\\0`: "\\0", `\1\2\3`: "\x01\x02\x03", `\x1\x2`: "\x01\x02", `\xa\n`: "\n\n", `\40x`: " x", `\40 0`: "  0",
		`\x1\x`: "", `\X41`: "", `\x`: "", `\xg`: "", `\x 1`: "", `\400`: "", `\777`: "", `\401`: "", `\4000`: "", `\8`: "", `\9`: "", `\N`: "", `\e`: "", `\?`: "", `\ `: "", `\u0041`: "", `\q`: "", `\-1`: "",
	} {
		if want == "" {
			faultsWith(t, "\""+text+"\"", 5)
			faultsWith(t, "'"+text+"'", 5)
			continue
		}
		isOne(t, "\""+text+"\"", str(want))
		if len(want) == 1 {
			isOne(t, "'"+text+"'", character(int(want[0])))
		} else {
			faultsWith(t, "'"+text+"'", 7)
		}
	}
}

func TestCharactersThatAreNone(t *testing.T) {
	for _, text := range []string{"''", "'ab'", "'abc'", "'  '", "'\\n\\n'", "'\\n '", "'\\1234'", "'\\x123'", "'\\18'", "'é'", "'\xff\xff'", "'\"\"'", "'//'", "'/**/'", "'" + strings.Repeat("a", 300) + "'", "'''"} {
		faultsWith(t, text, 7)
		faultsWith(t, text+"+1", 7)
	}
}

func TestStringsThatAreNotEnded(t *testing.T) {
	for _, mark := range []string{"'", "\""} {
		for _, inner := range []string{"", "a", "ab", "a b c", " ", "\\n", "\\" + mark, "\\\\", "\\1", "\\12", "\\xf", "\\", "a\\", "\\\\\\", "//", "/*", "/* */", strings.Repeat("x", 300), "\xff", "é", "\r", "#"} {
			for _, end := range []string{"", "\n", "\n" + mark, "\na" + mark, "\n\n"} {
				faultsWith(t, mark+inner+end, 4)
			}
		}
	}
	faultsWith(t, "\"'", 4)
	faultsWith(t, "'\"", 4)
	faultsWith(t, "\"a'b'", 4)
	faultsWith(t, "'\"\"", 4)
}

func TestStringsByHand(t *testing.T) {
	for text, want := range map[string]string{
		`""`: "", `" "`: " ", `"a"`: "a", `"int"`: "int", `"12"`: "12", `"// no"`: "// no", `"/* no"`: "/* no", `"*/"`: "*/", `"'"`: "'", `"\""`: "\"", `"\\"`: "\\", `"a\"b\"c"`: "a\"b\"c",
		"\"\t\v\f\r\"": "\t\v\f\r", "\"\x00\"": "\x00", "\"é ÿ\"": "é ÿ", "\"\xc3\"": "\xc3", "\"\xa9\xff\xfe\"": "\xa9\xff\xfe", `"\303\251"`: "é", `"\xe9"`: "\xe9", `"#@$"`: "#@$",
	} {
		isOne(t, text, str(want))
	}
}

func TestLengthsOfStrings(t *testing.T) {
	for _, one := range []struct{ text, stands string }{
		{"a", "a"}, {"\\n", "\n"}, {"\\377", "\xff"}, {"\\x41", "A"}, {"\xff", "\xff"}, {"'", "'"}, {"\\\"", "\""}, {"\t", "\t"},
	} {
		for _, size := range []int{1, impl.MaxString - 1, impl.MaxString} {
			isOne(t, "\""+strings.Repeat(one.text, size)+"\"", str(strings.Repeat(one.stands, size)))
		}
		for _, size := range []int{impl.MaxString + 1, 2 * impl.MaxString, 9 * impl.MaxString} {
			faultsWith(t, "\""+strings.Repeat(one.text, size)+"\"", 8)
			faultsWith(t, "\""+strings.Repeat(one.text, size)+"\";", 8)
		}
	}
	// Bytes count, not what they make together.
	isOne(t, "\""+strings.Repeat("é", impl.MaxString/2)+"\"", str(strings.Repeat("é", impl.MaxString/2)))
	faultsWith(t, "\""+strings.Repeat("é", impl.MaxString/2+1)+"\"", 8)
}

// quotedBy is what the document says of each byte.
func quotedBy(b byte) string {
	switch {
	case b == '"':
		return "\\\""
	case b == '\\':
		return "\\\\"
	case b == 10:
		return "\\n"
	case b == 9:
		return "\\t"
	case b == 13:
		return "\\r"
	case b >= 32 && b <= 126:
		return string([]byte{b})
	}
	return fmt.Sprintf("\\%03o", b)
}

func TestQuoteOfEachByte(t *testing.T) {
	for b := range 256 {
		s := string([]byte{byte(b)})
		want := "\"" + quotedBy(byte(b)) + "\""
		if got := impl.QuoteText(s); got != want {
			t.Errorf("%d: %q, not %q", b, got, want)
		}
		isOne(t, impl.QuoteText(s), str(s))
	}
}

func TestQuoteOfEachTwoBytes(t *testing.T) {
	for a := range 256 {
		for b := range 256 {
			s := string([]byte{byte(a), byte(b)})
			text := impl.QuoteText(s)
			if want := "\"" + quotedBy(byte(a)) + quotedBy(byte(b)) + "\""; text != want {
				t.Fatalf("%q: %q, not %q", s, text, want)
			}
			got, code, _, _ := impl.Lex([]byte(text))
			if code != 0 || len(got) != 2 || got[0] != at(str(s), 1, 1) {
				t.Fatalf("%q: %q is read as %v, %d", s, text, got, code)
			}
		}
	}
}

func TestQuoteByHand(t *testing.T) {
	for s, want := range map[string]string{
		"": `""`, "a": `"a"`, "it's": `"it's"`, "\"\"": `"\"\""`, "\\": `"\\"`, "\\n": `"\\n"`, "\n1": `"\n1"`, "\x001": `"\0001"`, "\a\b\f\v": `"\007\010\014\013"`, "\x7f": `"\177"`, "é": `"\303\251"`,
		"\xff\x80": `"\377\200"`, "~ ": `"~ "`, "\x1f!": `"\037!"`,
	} {
		if got := impl.QuoteText(s); got != want {
			t.Errorf("%q: %s, not %s", s, got, want)
		}
	}
	long := strings.Repeat("\xff\n\"", 50000)
	if got := impl.QuoteText(long); got != "\""+strings.Repeat("\\377\\n\\\"", 50000)+"\"" {
		t.Errorf("a long string: %d bytes", len(got))
	}
}

func TestQuoteOfStringsOfAllBytes(t *testing.T) {
	all := make([]byte, 256)
	for i := range all {
		all[i] = byte(i)
	}
	for from := 0; from+impl.MaxString <= len(all); from++ {
		s := all[from : from+impl.MaxString]
		text := impl.QuoteText(string(s))
		got, code, _, _ := impl.Lex([]byte(text))
		if code != 0 || len(got) != 2 || got[0] != at(str(string(s)), 1, 1) {
			t.Errorf("from %d: %v, %d", from, got, code)
		}
		slices.Reverse(all)
	}
	faultsWith(t, impl.QuoteText(string(all)), 8)
}
