package tests

import (
	"math/rand"
	"regexp"
	"slices"
	"strconv"
	"strings"
	"testing"

	"loop.example/s01681/impl"
)

// filled is a source of so many bytes that begins and ends as given, with blanks between.
func filled(begin, end string, bytes int) string {
	return begin + strings.Repeat(" ", bytes-len(begin)-len(end)) + end
}

func TestCodesOfLex(t *testing.T) {
	long := strings.Repeat("a", impl.MaxName+1)
	wide := "\"" + strings.Repeat("a", impl.MaxString+1) + "\""
	for text, want := range map[string][3]int{
		"@": {2, 1, 1}, "12x": {2, 1, 1}, "/* x": {3, 1, 1}, "\"x": {4, 1, 1}, "'\n'": {4, 1, 1}, `"\q"`: {5, 1, 1}, `'\q'`: {5, 1, 1}, "4294967296": {6, 1, 1}, "09": {6, 1, 1}, "''": {7, 1, 1}, "'ab'": {7, 1, 1}, long: {8, 1, 1}, wide: {8, 1, 1},

		// Of 4 and 5 in one, the one that comes first.
		`"\q`: {5, 1, 1}, "\"\\q\n\"": {5, 1, 1}, "\"a\n\\q\"": {4, 1, 1}, `"\`: {4, 1, 1}, "\"\\\n": {4, 1, 1}, `"\\\`: {4, 1, 1}, `"\"`: {4, 1, 1}, `'\'`: {4, 1, 1}, `"\x`: {5, 1, 1}, "\"\\x\n": {5, 1, 1}, `"\400`: {5, 1, 1},
		`"\40`: {4, 1, 1}, `"\x4`: {4, 1, 1}, "'\\8\n": {5, 1, 1}, `'\q`: {5, 1, 1}, `"\n\q`: {5, 1, 1}, "\"\\n\n\\q": {4, 1, 1},

		// 2 and 6 in one integer.
		"08x": {2, 1, 1}, "4294967296x": {2, 1, 1}, "0x1ffffffffg": {2, 1, 1}, "4294967296uu": {2, 1, 1}, "08uu": {2, 1, 1}, "08u": {6, 1, 1},

		// 4, 5 and 7 in one character.
		`'ab\q'`: {5, 1, 1}, `'a\q'`: {5, 1, 1}, `'\qa'`: {5, 1, 1}, `'\q\q'`: {5, 1, 1}, `'\400a'`: {5, 1, 1}, "'ab": {4, 1, 1}, "'ab\n'": {4, 1, 1}, "'": {4, 1, 1}, "'\n": {4, 1, 1}, `'ab\`: {4, 1, 1},

		// 4, 5 and 8 in one string.
		wide[:len(wide)-1]: {4, 1, 1}, wide[:len(wide)-1] + "\\q\"": {5, 1, 1}, wide[:len(wide)-1] + "\n\"": {4, 1, 1},

		// Two that stand one behind the other.
		"@ 12x": {2, 1, 1}, "'' @": {7, 1, 1}, long + " @": {8, 1, 1}, "09 @": {6, 1, 1}, "a\n'' /*": {7, 2, 1}, "a /* '' @": {3, 1, 3}, "'ab' /*": {7, 1, 1}, "// ''\n@": {2, 2, 1}, wide + "''": {8, 1, 1}, "\"@\" @": {2, 1, 5}, "'ab'\"": {7, 1, 1}, "12x\"": {2, 1, 1},
		"1 2x": {2, 1, 3}, "''''": {7, 1, 1}, "'a'''": {7, 1, 4}, "\"a\"\"": {4, 1, 4}, "08@": {6, 1, 1}, "a@": {2, 1, 2}, "+@": {2, 1, 2}, "\\": {2, 1, 1}, "a\\\nb": {2, 1, 2}, "a$b": {2, 1, 2}, "#include": {2, 1, 1}, "`": {2, 1, 1}, "é": {2, 1, 1}, "aé": {2, 1, 2},
	} {
		_, code, line, col := lex(t, text)
		if got := [3]int{code, line, col}; got != want {
			t.Errorf("%.80q: %v, not %v", text, got, want)
		}
	}
}

func TestSourcesOfManyBytes(t *testing.T) {
	for _, c := range []struct {
		begin, end string
		more       int
		code, col  int
	}{
		{"", "", 0, 0, 0}, {"a", "b", 0, 0, 0}, {"/*", "*/", 0, 0, 0}, {"//", "", 0, 0, 0}, {"\"\"", "", -1, 0, 0}, {"", "", 1, 1, 1}, {"a", "b", 1, 1, 1}, {"/*", "*/", 1, 1, 1}, {"//", "", 1, 1, 1},
		{"@", "", 0, 2, 1}, {"", "@", 0, 2, impl.MaxSource}, {"@", "", 1, 1, 1}, {"", "@", 1, 1, 1}, {"/*", "", 0, 3, 1}, {"/*", "", 1, 1, 1}, {"\"", "", 0, 4, 1}, {"\"", "", 1, 1, 1}, {"", "", 50000, 1, 1}, {"\n\n'", "", 1, 1, 1},
		{"", "08", 0, 6, impl.MaxSource - 1},
	} {
		_, code, line, col := lex(t, filled(c.begin, c.end, impl.MaxSource+c.more))
		if code != c.code || line != min(code, 1) || col != c.col {
			t.Errorf("%q .. %q of %d more: %d, %d, %d", c.begin, c.end, c.more, code, line, col)
		}
	}
	for _, word := range []string{"a", "0"} {
		_, code, _, _ := lex(t, strings.Repeat(word, impl.MaxSource))
		if want := map[string]int{"a": 8, "0": 0}[word]; code != want {
			t.Errorf("%q without end: %d", word, code)
		}
	}
	if _, code, _, _ := lex(t, strings.Repeat("9", impl.MaxSource)); code != 6 {
		t.Errorf("9 without end: %d", code)
	}
	if _, code, _, _ := lex(t, strings.Repeat("9", impl.MaxSource-1)+"x"); code != 2 {
		t.Errorf("9 without end, and a letter: %d", code)
	}
}

func TestManyTokens(t *testing.T) {
	for _, one := range []string{";", "a ", "1 ", "'a'", "\"\"", "+ ", "<<=", "do\n"} {
		text := strings.Repeat(one, impl.MaxTokens)
		got := lexed(t, text)
		if len(got) != impl.MaxTokens+1 {
			t.Errorf("%q: %d tokens", one, len(got))
		}
		line, col := 1, len(text)+1
		if one == "do\n" {
			line, col = impl.MaxTokens+1, 1
		}
		if len(got) > 0 && got[len(got)-1] != at(impl.Token{}, line, col) {
			t.Errorf("%q: the last is %v", one, got[len(got)-1])
		}
	}
}

func TestOneTokenTooMany(t *testing.T) {
	most := strings.Repeat(";", impl.MaxTokens)
	long := strings.Repeat("a", impl.MaxName+1)
	wide := "\"" + strings.Repeat("a", impl.MaxString+1) + "\""
	for behind, want := range map[string][3]int{
		"":         {0, 0, 0},
		" // x":    {0, 0, 0},
		"\n/* */ ": {0, 0, 0},
		";":        {9, 1, 6001},
		";;;":      {9, 1, 6001},
		" \n  a b": {9, 2, 3},
		"/*\n*/7":  {9, 2, 3},
		"'a'":      {9, 1, 6001},
		"\"a\"":    {9, 1, 6001},
		"do":       {9, 1, 6001},

		// A fault ahead of the first one too many, in it, and behind it.
		"@":         {2, 1, 6001},
		"@;":        {2, 1, 6001},
		";@":        {9, 1, 6001},
		" 12x":      {2, 1, 6002},
		"/*":        {3, 1, 6001},
		"\"a":       {4, 1, 6001},
		"'\\q'":     {5, 1, 6001},
		"08":        {6, 1, 6001},
		"''":        {7, 1, 6001},
		long:        {8, 1, 6001},
		wide:        {8, 1, 6001},
		"\n" + long: {8, 2, 1},
		";" + long:  {9, 1, 6001},
		"a " + wide: {9, 1, 6001},
		"a/*":       {9, 1, 6001},
	} {
		_, code, line, col := lex(t, most+behind)
		if got := [3]int{code, line, col}; got != want {
			t.Errorf("behind as many as may be %.80q: %v, not %v", behind, got, want)
		}
	}
	if _, code, line, col := lex(t, "''"+most+";"); code != 7 || line != 1 || col != 1 {
		t.Errorf("a fault ahead of too many: %d, %d, %d", code, line, col)
	}
	if _, code, line, col := lex(t, filled(most+";", "", impl.MaxSource+1)); code != 1 || line != 1 || col != 1 {
		t.Errorf("too many bytes and tokens: %d, %d, %d", code, line, col)
	}
	if _, code, _, _ := lex(t, most[:impl.MaxTokens-1]+long); code != 8 {
		t.Errorf("a long word as the last that may be: %d", code)
	}
}

// The patterns of a second reader; all are held against the beginning of what is left.
var (
	blankBy   = regexp.MustCompile(`^(?s:[ \t\n\v\f\r]|//[^\n]*|/\*.*?\*/)+`)
	nameBy    = regexp.MustCompile(`^[A-Za-z_][A-Za-z_0-9]*`)
	runBy     = regexp.MustCompile(`^[0-9][A-Za-z_0-9]*`)
	integerBy = regexp.MustCompile(`^(?:0[xX]([0-9a-fA-F]+)|(0[0-9]*)|([1-9][0-9]*))([uU]?)$`)
	stringBy  = regexp.MustCompile(`^(?:[^\\\n"]|\\(?:[ntrabfv\\'"]|[0-7]{1,3}|x[0-9a-fA-F]{1,2}))*`)
	charBy    = regexp.MustCompile(`^(?:[^\\\n']|\\(?:[ntrabfv\\'"]|[0-7]{1,3}|x[0-9a-fA-F]{1,2}))*`)
	escapeBy  = regexp.MustCompile(`\\(?:[ntrabfv\\'"]|[0-7]{1,3}|x[0-9a-fA-F]{1,2})`)
)

// lexBy is a second reader, made of patterns.
func lexBy(text string) ([]impl.Token, int, int, int) {
	if len(text) > impl.MaxSource {
		return nil, 1, 1, 1
	}
	tokens, rest := []impl.Token{}, text
	for {
		rest = rest[len(blankBy.FindString(rest)):]
		before := text[:len(text)-len(rest)]
		line, col := 1+strings.Count(before, "\n"), len(before)-strings.LastIndex(before, "\n")
		if rest == "" {
			return append(tokens, impl.Token{Line: line, Col: col}), 0, 0, 0
		}
		tok, size, code := tokenBy(rest)
		if code == 0 && len(tokens) == impl.MaxTokens {
			code = 9
		}
		if code != 0 {
			return nil, code, line, col
		}
		tokens, rest = append(tokens, at(tok, line, col)), rest[size:]
	}
}

func tokenBy(text string) (impl.Token, int, int) {
	if strings.HasPrefix(text, "/*") {
		return impl.Token{}, 0, 3
	}
	if word := nameBy.FindString(text); word != "" {
		tok := name(word)
		if slices.Contains(strings.Fields(keyWords), word) {
			tok = key(word)
		}
		return tok, len(word), codeIf(len(word) > impl.MaxName, 8)
	}
	if run := runBy.FindString(text); run != "" {
		tok, code := integerOf(run)
		return tok, len(run), code
	}
	if text[0] == '"' || text[0] == '\'' {
		return quoteBy(text)
	}
	for s := range strings.FieldsSeq(allSigns) {
		if strings.HasPrefix(text, s) {
			return sign(s), len(s), 0
		}
	}
	return impl.Token{}, 0, 2
}

func codeIf(wrong bool, code int) int {
	if wrong {
		return code
	}
	return 0
}

func integerOf(run string) (impl.Token, int) {
	parts := integerBy.FindStringSubmatch(run)
	if parts == nil {
		return impl.Token{}, 2
	}
	n, err := uint64(0), error(nil)
	switch {
	case parts[1] != "":
		n, err = strconv.ParseUint(parts[1], 16, 64)
	case parts[2] != "":
		n, err = strconv.ParseUint(parts[2], 8, 64)
	default:
		n, err = strconv.ParseUint(parts[3], 10, 64)
	}
	tok := integer(int(n), strings.ToLower(parts[4]))
	if n > 2147483647 {
		tok.S = "u"
	}
	return tok, codeIf(err != nil || n > 4294967295, 6)
}

func quoteBy(text string) (impl.Token, int, int) {
	mark, pattern := text[:1], stringBy
	if mark == "'" {
		pattern = charBy
	}
	inner := pattern.FindString(text[1:])
	code := 0
	value := escapeBy.ReplaceAllStringFunc(inner, func(escape string) string {
		b, ok := escapeOf(escape[1:])
		if !ok {
			code = 5
		}
		return string([]byte{b})
	})
	behind := text[1+len(inner):]
	switch {
	case code != 0:
	case behind == "" || behind == "\\" || behind[0] == '\n' || strings.HasPrefix(behind, "\\\n"):
		code = 4
	case behind[0] == '\\':
		code = 5
	case mark == "'":
		code = codeIf(len(value) != 1, 7)
	default:
		code = codeIf(len(value) > impl.MaxString, 8)
	}
	size := len(inner) + 2
	switch {
	case code != 0:
		return impl.Token{}, size, code
	case mark == "'":
		return character(int(value[0])), size, 0
	}
	return str(value), size, 0
}

func escapeOf(behind string) (byte, bool) {
	if b, ok := escapes[behind[0]]; ok {
		return b, true
	}
	base := 8
	if behind[0] == 'x' {
		behind, base = behind[1:], 16
	}
	n, err := strconv.ParseUint(behind, base, 64)
	return byte(n), err == nil && n <= 255
}

// anySource strings pieces together that are likely to make tokens, and faults when there are to be any.
func anySource(r *rand.Rand, pieces []string) string {
	text := []string{}
	for range r.Intn(14) {
		text = append(text, pieces[r.Intn(len(pieces))])
	}
	return strings.Join(text, "")
}

func TestManySources(t *testing.T) {
	plain := append(strings.Fields(allSigns+" "+keyWords), "a", "_1", "x0", "u", "0", "07", "12u", "0x1F", "4294967295", "2147483648U", "'a'", `'\0'`, `'\377'`, `'\''`, `"ab"`, `""`, `"\n\x41g"`, `"\1234"`, "\"\xff'\"", "// c\n", "/* d\n */", "/**/")
	blanks := []string{" ", " ", "\n", "\t", "\r", "\v", "\f", " "}
	odd := []string{"\"", "'", "\\", "/*", "*/", "//", "@", "#", "é", "\xff", "\x00", "0x", "08", "1a", "uu", "4294967296", "99999999999999999999", "\\q", "\\400", "\\x", "\\n", "7", "8", "f", "\\\n", strings.Repeat("b", 39), "/", "*"}
	r := rand.New(rand.NewSource(5))
	codes := [10]int{}
	for range 60000 {
		pieces := append(slices.Clone(plain), blanks...)
		switch r.Intn(3) {
		case 0:
			pieces = append(odd, blanks...)
		case 1:
			pieces = append(pieces, odd...)
		}
		text := anySource(r, pieces)
		want, wantCode, wantLine, wantCol := lexBy(text)
		got, code, line, col := lex(t, text)
		if code != wantCode || line != wantLine || col != wantCol || !slices.Equal(got, want) {
			t.Fatalf("%q: %v, %d, %d, %d, not %v, %d, %d, %d", text, got, code, line, col, want, wantCode, wantLine, wantCol)
		}
		if code == 0 {
			checkReadAgain(t, got)
		}
		codes[code]++
	}
	for _, code := range []int{0, 2, 3, 4, 5, 6, 7, 8} {
		if codes[code] < 50 {
			t.Errorf("code %d has come %d times: the sources are too tame", code, codes[code])
		}
	}
}

func TestManyRandomBytes(t *testing.T) {
	const likely = "\\'\"/*xu0178a_ \n<=>"
	r := rand.New(rand.NewSource(6))
	for range 20000 {
		text := make([]byte, r.Intn(60))
		for i := range text {
			text[i] = byte(r.Intn(256))
			if r.Intn(3) > 0 {
				text[i] = likely[r.Intn(len(likely))]
			}
		}
		want, wantCode, wantLine, wantCol := lexBy(string(text))
		got, code, line, col := lex(t, string(text))
		if code != wantCode || line != wantLine || col != wantCol || !slices.Equal(got, want) {
			t.Fatalf("%q: %v, %d, %d, %d, not %v, %d, %d, %d", text, got, code, line, col, want, wantCode, wantLine, wantCol)
		}
	}
}

func TestAnswersOfLexShareNoMemory(t *testing.T) {
	text := []byte("int main() { return \"ab\"[0] + 'c'; }")
	a, _, _, _ := impl.Lex(text)
	b, _, _, _ := impl.Lex(text)
	if touch(a, b) || !slices.Equal(a, b) {
		t.Errorf("two answers share memory, or are not the same")
	}
	for i := range a {
		a[i] = impl.Token{}
	}
	if c, _, _, _ := impl.Lex(text); !slices.Equal(b, c) {
		t.Errorf("%v", c)
	}
}
