package tests

import (
	"math/rand"
	"slices"
	"strconv"
	"strings"
	"testing"

	"loop.example/s01681/impl"
)

const keyWords = "break case char continue default do else enum for goto if int return short signed sizeof struct switch " +
	"typedef union unsigned void while"

const allSigns = "<<= >>= -> ++ -- << >> <= >= == != && || += -= *= /= %= &= ^= |= + - * / % & | ^ ~ ! < > = ? : ; , . ( ) [ ] { }"

// lex hands a text in with room behind it, spoils it behind the call, and asks for what all answers have in common.
func lex(t *testing.T, text string) ([]impl.Token, int, int, int) {
	t.Helper()
	given := roomy([]byte(text))
	room := slices.Clone(given[:cap(given)])
	tokens, code, line, col := impl.Lex(given)
	if !slices.Equal(given[:cap(given)], room) {
		t.Errorf("%.80q: Lex wrote into its text", text)
	}
	for i := range given {
		given[i] = 'q'
	}
	if code < 0 || code > 9 || code != 0 && (len(tokens) != 0 || line < 1 || col < 1) || code == 0 && (line != 0 || col != 0) {
		t.Errorf("%.80q: %d tokens, %d, %d, %d", text, len(tokens), code, line, col)
	}
	return tokens, code, line, col
}

// lexed is the tokens of a text that has no fault.
func lexed(t *testing.T, text string) []impl.Token {
	t.Helper()
	tokens, code, line, col := lex(t, text)
	if code != 0 {
		t.Errorf("%.80q: %d, %d, %d", text, code, line, col)
		return nil
	}
	if len(tokens) == 0 || tokens[len(tokens)-1].Kind != impl.TokEnd {
		t.Errorf("%.80q: no TokEnd behind %d tokens", text, len(tokens))
		return nil
	}
	checkReadAgain(t, tokens)
	return tokens
}

// checkReadAgain asks for promise 6 of tokens that Lex gave.
func checkReadAgain(t *testing.T, tokens []impl.Token) {
	t.Helper()
	texts := []string{}
	for _, tok := range tokens[:len(tokens)-1] {
		text := impl.TokenText(tok)
		got, code, _, _ := impl.Lex([]byte(text))
		if code != 0 || len(got) != 2 || got[0] != at(tok, 1, 1) || got[1] != at(impl.Token{}, 1, len(text)+1) {
			t.Errorf("%+v is written as %q, and read as %+v, %d", tok, text, got, code)
		}
		texts = append(texts, text)
	}
	all := strings.Join(texts, " ")
	if len(all) > impl.MaxSource {
		return
	}
	got, code, _, _ := impl.Lex([]byte(all))
	if code != 0 || !slices.Equal(placeless(got), placeless(tokens)) {
		t.Errorf("%d tokens are read again as %d, %d", len(tokens), len(got), code)
	}
}

func at(tok impl.Token, line, col int) impl.Token {
	tok.Line, tok.Col = line, col
	return tok
}

func placeless(tokens []impl.Token) []impl.Token {
	out := []impl.Token{}
	for _, tok := range tokens {
		out = append(out, at(tok, 0, 0))
	}
	return out
}

func name(s string) impl.Token { return impl.Token{Kind: impl.TokName, S: s} }
func key(s string) impl.Token  { return impl.Token{Kind: impl.TokKey, S: s} }
func sign(s string) impl.Token { return impl.Token{Kind: impl.TokSign, S: s} }
func str(s string) impl.Token  { return impl.Token{Kind: impl.TokStr, S: s} }

func integer(n int, s string) impl.Token { return impl.Token{Kind: impl.TokInt, N: n, S: s} }

// character is the token of a byte.
func character(b int) impl.Token {
	if b >= 128 {
		b += 1<<32 - 256
	}
	return integer(b, "c")
}

// isOne asks that a text is one token, wherever it stands in a source.
func isOne(t *testing.T, text string, want impl.Token) {
	t.Helper()
	for _, c := range []struct {
		before, behind string
		line, col      int
		ahead, more    int
	}{
		{"", "", 1, 1, 0, 0}, {" ", " ", 1, 2, 0, 0}, {"\n\n\t", "\n", 3, 2, 0, 0}, {"(", ")", 1, 2, 1, 1}, {"{}\n;(\"x\"", "]a", 2, 6, 5, 2},
		{"/**/", " //", 1, 5, 0, 0}, {"//\n", "\n/* */", 2, 1, 0, 0},
	} {
		got := lexed(t, c.before+text+c.behind)
		if len(got) != c.ahead+1+c.more+1 || got[c.ahead] != at(want, c.line, c.col) {
			t.Errorf("%.80q between %q and %q: %v, not %v", text, c.before, c.behind, got, want)
		}
	}
}

// faultsWith asks that a text has a fault at its first byte, wherever it stands and whatever comes behind its line.
func faultsWith(t *testing.T, text string, want int) {
	t.Helper()
	for _, c := range []struct {
		before    string
		line, col int
	}{{"", 1, 1}, {"  ", 1, 3}, {"x = 1;\n\n\ty = '\\n' + ", 3, 13}, {"/*\n*/(", 2, 4}, {"// \"\n", 2, 1}} {
		for _, behind := range []string{"", "\n@", "\n\"\\q"} {
			if want == 3 && behind != "" {
				continue
			}
			_, code, line, col := lex(t, c.before+text+behind)
			if code != want || line != c.line || col != c.col {
				t.Errorf("%.80q between %q and %q: %d at %d, %d, not %d at %d, %d", text, c.before, behind, code, line, col, want, c.line, c.col)
			}
		}
	}
}

func TestNoToken(t *testing.T) {
	for text, col := range map[string]int{"": 1, " ": 2, "\t\t": 3, "\v\f\r": 4, "/**/": 5, "// x": 5, "/* // */": 9} {
		want := []impl.Token{at(impl.Token{}, 1, col)}
		if got := lexed(t, text); !slices.Equal(got, want) {
			t.Errorf("%q: %v", text, got)
		}
	}
	if tokens, code, line, col := impl.Lex(nil); code != 0 || line != 0 || col != 0 || !slices.Equal(tokens, []impl.Token{{Line: 1, Col: 1}}) {
		t.Errorf("nil: %v, %d, %d, %d", tokens, code, line, col)
	}
}

func TestKeyWords(t *testing.T) {
	for word := range strings.FieldsSeq(keyWords) {
		isOne(t, word, key(word))
		near := []string{word + "s", word + "_", word + "0", "_" + word, word + word, strings.ToUpper(word), strings.ToUpper(word[:1]) + word[1:], word[:len(word)-1], word[1:]}
		for _, other := range near {
			isOne(t, other, name(other))
		}
	}
	for _, other := range []string{"long", "const", "static", "extern", "float", "double", "auto", "register", "volatile", "inline", "main", "u", "c", "x", "ux0"} {
		isOne(t, other, name(other))
	}
}

func TestNames(t *testing.T) {
	for _, first := range "abcdefghijklmnopqrstuvwxyzABCDEFGHIJKLMNOPQRSTUVWXYZ_" {
		isOne(t, string(first), name(string(first)))
		isOne(t, string(first)+"_9Zz0aA", name(string(first)+"_9Zz0aA"))
	}
	for _, one := range []string{"a", "_", "Z", "x7"} {
		word := one + strings.Repeat("7", impl.MaxName-len(one))
		isOne(t, word, name(word))
		isOne(t, word[:len(word)-1], name(word[:len(word)-1]))
		faultsWith(t, word+"_", 8)
		faultsWith(t, word+"a)", 8)
		faultsWith(t, strings.Repeat(word, 20), 8)
	}
	faultsWith(t, "while"+strings.Repeat("e", impl.MaxName-4), 8)
}

func TestSigns(t *testing.T) {
	for s := range strings.FieldsSeq(allSigns) {
		isOne(t, s, sign(s))
	}
}

func TestSignsThatTouch(t *testing.T) {
	for text, want := range map[string]string{
		"+++": "++ +", "++++": "++ ++", "+++=": "++ +=", "---": "-- -", "-->": "-- >", "->>": "-> >", "->=": "-> =", "<<<": "<< <", "<<<=": "<< <=",
		"<<==": "<<= =", "<=<": "<= <", ">>>=": ">> >=", ">>>>=": ">> >>=", ">>>": ">> >", "===": "== =", "!==": "!= =", "!!=": "! !=", "&&&": "&& &",
		"&&=": "&& =", "|||": "|| |", "||=": "|| =", "^==": "^= =", "^^": "^ ^", "%=%": "%= %", "*/": "* /", "**=": "* *=", "/==": "/= =", "...": ". . .",
		"..": ". .", "->.": "-> .", "-.": "- .", "<-": "< -", "=+": "= +", "=<<=": "= <<=", "?:": "? :", "::": ": :", "~=": "~ =", "([{}])": "( [ { } ] )",
		"-=>": "-= >", "<>": "< >", "=>": "= >", "=!": "= !", ";;": "; ;",
	} {
		checkSigns(t, text, strings.Fields(want))
	}
}

func checkSigns(t *testing.T, text string, want []string) {
	t.Helper()
	tokens, col := []impl.Token{}, 1
	for _, s := range want {
		tokens = append(tokens, at(sign(s), 1, col))
		col += len(s)
	}
	tokens = append(tokens, at(impl.Token{}, 1, col))
	if got := lexed(t, text); !slices.Equal(got, tokens) {
		t.Errorf("%q: %v", text, got)
	}
}

func TestEachPairOfSigns(t *testing.T) {
	signs := strings.Fields(allSigns)
	for _, a := range signs {
		for _, b := range signs {
			if text := a + b; !strings.Contains(text, "//") && !strings.Contains(text, "/*") {
				checkSigns(t, text, longestSigns(text))
			}
		}
	}
}

// longestSigns leans on the order of allSigns, which has the longer ones first.
func longestSigns(text string) []string {
	out := []string{}
	for text != "" {
		for s := range strings.FieldsSeq(allSigns) {
			if strings.HasPrefix(text, s) {
				out, text = append(out, s), text[len(s):]
				break
			}
		}
	}
	return out
}

func TestIntegersByHand(t *testing.T) {
	for text, n := range map[string]int{
		"0": 0, "00": 0, "0000000000000000000000": 0, "0x0": 0, "0X0": 0, "0x0000000000000000000000f": 15, "0000000000000000000000000017": 15,
		"1": 1, "7": 7, "9": 9, "10": 10, "99": 99, "01": 1, "07": 7, "010": 8, "0777": 511, "0x9": 9, "0xa": 10, "0xF": 15, "0XfF": 255, "0xAbCdEf": 0xabcdef,
		"0x123456": 0x123456, "0x7890": 0x7890, "1234567890": 1234567890, "2147483646": 2147483646, "2147483647": 2147483647, "0x7fffffff": 2147483647, "017777777777": 2147483647,
	} {
		isOne(t, text, integer(n, ""))
		isOne(t, text+"u", integer(n, "u"))
		isOne(t, text+"U", integer(n, "u"))
	}
	for text, n := range map[string]int{
		"2147483648": 2147483648, "0x80000000": 2147483648, "020000000000": 2147483648, "2147483649": 2147483649, "4294967294": 4294967294,
		"4294967295": 4294967295, "0xffffffff": 4294967295, "0XFFFFFFFF": 4294967295, "037777777777": 4294967295, "0x00000000000ffffffff": 4294967295,
		"00000000000000037777777777": 4294967295,
	} {
		isOne(t, text, integer(n, "u"))
		isOne(t, text+"u", integer(n, "u"))
		isOne(t, text+"U", integer(n, "u"))
	}
}

func TestManyIntegers(t *testing.T) {
	r := rand.New(rand.NewSource(4))
	for range 3000 {
		n := r.Int63() >> (31 + r.Intn(32))
		zeros := strings.Repeat("0", r.Intn(3)*r.Intn(12))
		text := [4]string{strconv.FormatInt(n, 10), "0" + zeros + strconv.FormatInt(n, 8), "0x" + zeros + strconv.FormatInt(n, 16), "0X" + zeros + strings.ToUpper(strconv.FormatInt(n, 16))}[r.Intn(4)]
		s := [3]string{"", "u", "U"}[r.Intn(3)]
		want := integer(int(n), strings.ToLower(s))
		if n > 2147483647 {
			want.S = "u"
		}
		if got := lexed(t, text+s); len(got) != 2 || got[0] != at(want, 1, 1) {
			t.Errorf("%s%s: %v", text, s, got)
		}
	}
}

func TestIntegersThatAreNone(t *testing.T) {
	for _, text := range []string{
		"0x", "0X", "0xu", "0XU", "0xg", "0x_", "0xx1", "0x1x", "0x0x0", "1x1", "00x1", "0xfg", "0x1_", "1a", "1_", "1_000", "0_", "0_1", "0a", "0f", "0b1", "0o7", "0e", "1e5", "1f", "9A",
		"1uu", "1uU", "1UU", "0uu", "0u0", "1u1", "1u_", "0xfuu", "0x1uU", "1l", "1L", "1ul", "1lu", "0x1l", "08a", "09_", "08uu", "0789x", "08u8", "0x8z",
		"4294967296a", "99999999999999999999999a", "0xfffffffffg", "0x100000000uu", "040000000000_", "77777777777777777777777777z", "0008z",
		"1" + strings.Repeat("0", 300) + "x", "0" + strings.Repeat("8", 300) + "u_",
	} {
		faultsWith(t, text, 2)
		faultsWith(t, text+")", 2)
	}
	for _, text := range []string{
		"4294967296", "4294967297", "4294967300", "5000000000", "10000000000", "42949672950", "18446744073709551615", "18446744073709551616", "18446744073709551617", "99999999999999999999999",
		"0x100000000", "0x1ffffffff", "0xfffffffff", "0X10000000000000000", "0x10000000000000001", "0x00100000000", "040000000000", "077777777777", "02000000000000000000000", "02000000000000000000001",
		"08", "09", "008", "0008", "018", "0180", "0777779", "0900000000000000000000000", "0888888888888888888888888888", "00000000000000000000000000000008",
		"1" + strings.Repeat("0", 300), "0x1" + strings.Repeat("0", 300),
	} {
		for _, s := range []string{"", "u", "U", ")", "u)", "u+1"} {
			faultsWith(t, text+s, 6)
		}
	}
	isOne(t, "0x8", integer(8, ""))
	isOne(t, "80", integer(80, ""))
	isOne(t, "109", integer(109, ""))
}

func TestNumbersBesideOtherTokens(t *testing.T) {
	for text, want := range map[string][]impl.Token{
		"1.5":    {integer(1, ""), sign("."), integer(5, "")},
		".5":     {sign("."), integer(5, "")},
		"-1":     {sign("-"), integer(1, "")},
		"1+2u":   {integer(1, ""), sign("+"), integer(2, "u")},
		"1u-0x2": {integer(1, "u"), sign("-"), integer(2, "")},
		"a1 1":   {name("a1"), integer(1, "")},
		"0 u":    {integer(0, ""), name("u")},
		"0/**/x": {integer(0, ""), name("x")},
		"1'a'":   {integer(1, ""), character('a')},
		"1\"a\"": {integer(1, ""), str("a")},
		"a'b'c":  {name("a"), character('b'), name("c")},
		"u\"\"u": {name("u"), str(""), name("u")},
		"'a''b'": {character('a'), character('b')},
	} {
		if got := lexed(t, text); !slices.Equal(placeless(got), append(want, impl.Token{})) {
			t.Errorf("%q: %v", text, got)
		}
	}
}
