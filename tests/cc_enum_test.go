package tests

import (
	"fmt"
	"math/rand"
	"strings"
	"sync/atomic"
	"testing"

	"loop.example/s01681/impl"
)

// constantBy is a constant with its text: a word, whether it is of a type without a sign, and whether it is a constant at all.
type constantBy struct {
	text     string
	word     uint32
	unsigned bool
	ok       bool
}

// enumMaker makes up constants, of the enumers in front among others.
type enumMaker struct {
	r     *rand.Rand
	known []constantBy
}

func (m *enumMaker) leaf() constantBy {
	list := append([]constantBy{
		{"0", 0, false, true}, {"1", 1, false, true}, {"2", 2, false, true}, {"31", 31, false, true}, {"32", 32, false, true}, {"7u", 7, true, true}, {"255", 255, false, true}, {"65535", 65535, false, true}, {"2147483647", 1<<31 - 1, false, true}, {"2147483648", 1 << 31, true, true}, {"4294967295", 1<<32 - 1, true, true}, {"0x80000000u", 1 << 31, true, true}, {"010", 8, false, true},
		{"'a'", 'a', false, true}, {"'\\377'", 1<<32 - 1, false, true}, {"'\\0'", 0, false, true}, {"sizeof(int)", 4, true, true}, {"sizeof 1", 4, true, true}, {"sizeof(char[7])", 7, true, true}, {"sizeof(short)", 2, true, true}, {"0x7fffffff", 1<<31 - 1, false, true},
	}, m.known...)
	return list[m.r.Intn(len(list))]
}

func (m *enumMaker) made(deep int) constantBy {
	if deep <= 0 {
		return m.leaf()
	}
	a := m.made(deep - 1 - m.r.Intn(2))
	switch m.r.Intn(10) {
	case 0:
		return m.unary(a)
	case 1:
		return m.cast(a)
	case 2:
		return m.choice(a, m.made(deep-1), m.made(deep-2))
	case 3:
		return constantBy{"(" + a.text + ")", a.word, a.unsigned, a.ok}
	}
	return m.binary(a, m.made(deep-1-m.r.Intn(2)))
}

func (m *enumMaker) unary(a constantBy) constantBy {
	sign := []string{"+", "-", "~", "!"}[m.r.Intn(4)]
	out := constantBy{sign + "(" + a.text + ")", a.word, a.unsigned, a.ok}
	switch sign {
	case "-":
		out.word = -a.word
	case "~":
		out.word = ^a.word
	case "!":
		out.word, out.unsigned = uint32(oneIf(a.word == 0)), false
	}
	return out
}

func (m *enumMaker) cast(a constantBy) constantBy {
	to := []string{"char", "unsigned char", "short", "unsigned short", "int", "unsigned", "signed char", "enum E"}[m.r.Intn(8)]
	out := constantBy{"(" + to + ")(" + a.text + ")", a.word, to == "unsigned", a.ok}
	switch to {
	case "char", "signed char":
		out.word = uint32(int8(a.word))
	case "unsigned char":
		out.word = uint32(uint8(a.word))
	case "short":
		out.word = uint32(int16(a.word))
	case "unsigned short":
		out.word = uint32(uint16(a.word))
	}
	return out
}

func (m *enumMaker) choice(a, b, c constantBy) constantBy {
	out := constantBy{"(" + a.text + ")?(" + b.text + "):(" + c.text + ")", c.word, b.unsigned || c.unsigned, a.ok && b.ok && c.ok}
	if a.word != 0 {
		out.word = b.word
	}
	return constantBy{"(" + out.text + ")", out.word, out.unsigned, out.ok}
}

func (m *enumMaker) binary(a, b constantBy) constantBy {
	signs := strings.Fields("* / % + - << >> < > <= >= == != & ^ | && || / % << >>")
	sign := signs[m.r.Intn(len(signs))]
	word, ok := constantOf(sign, a, b)
	unsigned := a.unsigned || b.unsigned
	switch sign {
	case "<<", ">>":
		unsigned = a.unsigned
	case "<", ">", "<=", ">=", "==", "!=", "&&", "||":
		unsigned = false
	}
	return constantBy{"((" + a.text + ")" + sign + "(" + b.text + "))", word, unsigned, ok && a.ok && b.ok}
}

// constantOf does what an operator does, with all that can be said of it in 64 bits.
func constantOf(sign string, a, b constantBy) (uint32, bool) {
	x, y := int64(int32(a.word)), int64(int32(b.word))
	if a.unsigned || b.unsigned {
		x, y = int64(a.word), int64(b.word)
	}
	truth := func(is bool) (uint32, bool) { return uint32(oneIf(is)), true }
	switch sign {
	case "*":
		return a.word * b.word, true
	case "/", "%":
		switch {
		case y == 0:
			return 0, false
		case sign == "/":
			return uint32(x / y), true
		}
		return uint32(x % y), true
	case "+":
		return uint32(x + y), true
	case "-":
		return uint32(x - y), true
	case "<<", ">>":
		switch {
		case b.word >= 32:
			return 0, false
		case sign == "<<":
			return a.word << b.word, true
		case a.unsigned:
			return a.word >> b.word, true
		}
		return uint32(int32(a.word) >> b.word), true
	case "<":
		return truth(x < y)
	case ">":
		return truth(x > y)
	case "<=":
		return truth(x <= y)
	case ">=":
		return truth(x >= y)
	case "==":
		return truth(x == y)
	case "!=":
		return truth(x != y)
	case "&":
		return a.word & b.word, true
	case "^":
		return a.word ^ b.word, true
	case "|":
		return a.word | b.word, true
	case "&&":
		return truth(x != 0 && y != 0)
	}
	return truth(x != 0 || y != 0)
}

// mainGives sees what a source's main gives, by what it means, by its code and on the machine.
func mainGives(t *testing.T, text string, word uint32) {
	t.Helper()
	meant, code, line, col := impl.Meaning([]byte(text), nil, 10000)
	if code != 0 || meant.End != impl.EndExit || meant.Value != int(word) {
		t.Errorf("%s: %d, %d, %d, it means %v, not %d", text, code, line, col, meant, word)
	}
	ir, _, _, _ := impl.Lower([]byte(text))
	if o := impl.RunIr(ir, nil, 100000); o.End != impl.EndExit || o.Value != int(word) {
		t.Errorf("%s: the code gives %v, not %d", text, o, word)
	}
	if o, code, _, _ := impl.Exec([]byte(text), nil, 100000, 4096); code != 0 || o.End != impl.EndExit || o.Value != int(word) {
		t.Errorf("%s: on the machine %v, not %d", text, o, word)
	}
}

// isEnumer is promise 21 for an expr, behind some enumers: the enumer's number in the core, and what the enumer and the expr
// give in a body.
func isEnumer(t *testing.T, front, expr string, word uint32) {
	t.Helper()
	source := fmt.Sprintf("enum E{%sA=%s};int main(void){return A;}", front, expr)
	core, code, line, col := impl.Check([]byte(source))
	if want := fmt.Sprintf("(function main w 0 (block (return (num %d))))\n", word); code != 0 || !strings.HasSuffix("\n"+string(core), "\n"+want) {
		t.Errorf("%s: %d, %d, %d, %s, not %s", source, code, line, col, core, want)
		return
	}
	mainGives(t, source, word)
	if front != "" {
		front = "enum E{" + strings.TrimSuffix(front, ",") + "};"
	} else {
		front = "enum E{Z_};"
	}
	mainGives(t, front+"int main(void){return "+expr+";}", word)
	// The number of an enumer is that of a case, and of what is given at the top.
	mainGives(t, front+"enum F{A="+expr+"};unsigned g="+expr+";int main(void){switch("+expr+"){case A:return g;}return g+1;}", word)
}

func TestEnumersByHand(t *testing.T) {
	t.Parallel()
	for expr, word := range map[string]int{
		"0": 0, "1": 1, "-1": -1, "4294967295": -1, "2147483648": 1 << 31, "-2147483648": 1 << 31, "2147483647+1": 1 << 31, "-2147483647-2": 1<<31 - 1, "65536*65536": 0, "65537*65537": 131073, "46341*46341": 2147488281 - 1<<32, "0-1u": -1, "~0": -1, "~0u>>1": 1<<31 - 1, "-(-2147483647-1)": 1 << 31, "+5": 5, "!5": 0, "!0": 1, "!!-3": 1,
		// Division's corners.
		"(-2147483647-1)/-1": 1 << 31, "(-2147483647-1)%-1": 0, "-7/2": -3, "-7%2": -1, "7/-2": -3, "7%-2": 1, "-7/-2": 3, "-7%-2": -1, "-7/2u": 2147483644, "-7%2u": 1, "4294967295/2": 1<<31 - 1, "4294967295%10": 5, "(-2147483647-1)/4294967295": 0, "(-2147483647-1)%4294967295": 1 << 31, "0/5": 0, "0%-5": 0, "1/2147483647": 0, "5/(unsigned)-1": 0, "5%(unsigned)-1": 5,
		// Shifts.
		"1<<31": 1 << 31, "1<<0": 1, "3<<31": 1 << 31, "-1>>31": -1, "-1>>0": -1, "-1>>1": -1, "4294967295>>31": 1, "4294967295>>1": 1<<31 - 1, "-2147483648>>4": 1 << 27, "(-2147483647-1)>>4": -1 << 27, "(int)2147483648>>31": -1, "1u<<31>>31": 1, "1<<31>>31": -1, "(char)128>>3": -16, "(unsigned char)-1>>3": 31, "1<<31u": 1 << 31, "-1>>(char)31": -1, "'\\200'>>7": -1,
		// Casts and characters.
		"(char)200": -56, "(unsigned char)200": 200, "(char)-200": 56, "(short)40000": -25536, "(unsigned short)-1": 65535, "(unsigned short)65536": 0, "(signed char)'\\377'": -1, "'\\377'": -1, "(unsigned char)'\\377'": 255, "'a'+'b'": 195, "(int)4294967295<0": 1, "(unsigned)-1>0": 1, "(char)127+1": 128, "(char)((char)127+1)": -128, "(unsigned short)(short)-2": 65534,
		// Comparisons and choices between types with and without a sign.
		"-1<0": 1, "-1<0u": 0, "-1>0u": 1, "4294967295==-1": 1, "2147483648>2147483647": 1, "-2147483648<0": 0, "(1?-1:0u)>>1": 1<<31 - 1, "(1?-1:0)>>1": -1, "(0?0u:-1)/2": 1<<31 - 1, "1?2:3": 2, "0?2:3": 3, "-1?2:3": 2, "0u?2:3": 3, "1?2:0?3:4": 2, "(char)256?1:2": 2,
		"1&&2": 1, "1&&0": 0, "0||0": 0, "0||'a'": 1, "1<2<3": 1, "3>2>1": 0, "5&6": 4, "5|6": 7, "5^6": 3, "-1^1": -2, "6&-4": 4, "1==1==1": 1, "2==2==2": 0, "1!=2": 1,
		"sizeof(int)": 4, "sizeof(char)": 1, "sizeof(short[5])": 10, "sizeof(int*)": 4, "sizeof \"abc\"": 4, "sizeof(1?'a':2u)": 4, "sizeof(char)-2": -1, "(sizeof(char)-2)/2": 1<<31 - 1, "-sizeof(int)": -4, "sizeof(int)>-1": 0, "sizeof sizeof 1": 4, "sizeof(struct S*)": 4,
	} {
		isEnumer(t, "", expr, uint32(word))
	}
	// With enumers that stand in front.
	for _, c := range []struct {
		front, expr string
		word        int
	}{
		{"B,C,", "C", 1}, {"B=-1,C,", "C", 0}, {"B=-1,C,", "B", -1}, {"B=2147483647,C,", "C", 1 << 31}, {"B=4294967295,C,", "B<C", 1}, {"B=4294967295,", "B/2", 0}, {"B=2147483648,", "B<0", 1}, {"B=5,C,D=B*C,", "D-1", 29}, {"B=3000000000u,", "B>>31", -1}, {"B=sizeof(int),", "B-5", -1}, {"B=1,C=B<<B,D=C<<C,F=D<<D,", "F", 2048}, {"B=(char)200,", "B", -56},
	} {
		isEnumer(t, c.front, c.expr, uint32(c.word))
	}
	// One more than the one in front.
	for _, c := range []struct {
		list string
		word int
	}{
		{"A", 0}, {"B,A", 1}, {"B,C,A", 2}, {"B=-1,A", 0}, {"B=-2,C,A", 0}, {"B=2147483647,A", 1 << 31}, {"B=4294967294,C,A", 0}, {"B=4294967295,A", 0}, {"B=7,A,C", 8}, {"B=7u,A,", 8}, {"B=(unsigned char)255,A", 256},
	} {
		mainGives(t, "enum E{"+c.list+"};int main(void){return A;}", uint32(c.word))
	}
}

// What is no constant is none wherever it stands, but a body does not come to a part that is not chosen.
func TestEnumersThatAreNone(t *testing.T) {
	t.Parallel()
	for expr, word := range map[string]int{"0?1/0:3": 3, "1||1/0": 1, "0&&1%0": 0, "1?4:1<<32": 4, "0&&1>>-1": 0, "1||5u%0u": 1} {
		source := "enum E{A=@" + expr + "};" + emptyMain
		text, _, _ := unmarked(source)
		if c := cc(t, text, "", 100, 64); c.ofText.code != 27 || c.ofIm.code != 27 || c.ofO.code != 27 {
			t.Errorf("%s: %v", text, c)
		}
		mainGives(t, whole("return "+expr+";"), uint32(word))
	}
	for _, expr := range []string{"1/0", "1%0", "1u/0u", "5%(1-1)", "1<<32", "1>>32", "1<<-1", "1u<<4294967295", "1<<'\\377'", "0/0", "1<<(1?32:31)"} {
		if _, code, _, _ := impl.Build([]byte("enum E{A="+expr+"};"+emptyMain), 64); code != 27 {
			t.Errorf("%s: %d", expr, code)
		}
		if o, code, _, _ := impl.Meaning([]byte(whole("return "+expr+";")), nil, 100); code != 0 || o.End != impl.EndUndefined {
			t.Errorf("%s: %v, %d", expr, o, code)
		}
	}
	for _, expr := range []string{"x", "main", "f()", "(1,2)", "&x==0", "x=1", "\"a\"==0", "(int)x", "*\"a\"", "x++"} {
		if _, code, _, _ := impl.Build([]byte("int x;int f(void){return 1;}enum E{A="+expr+"};"+emptyMain), 64); code != 27 && code != 10 && code != 20 {
			t.Errorf("%s: %d", expr, code)
		}
	}
}

func TestMadeUpEnumers(t *testing.T) {
	var constants, none atomic.Int32
	seeds(t, 1600, func(t *testing.T, seed int) {
		m := &enumMaker{r: rand.New(rand.NewSource(int64(seed)))}
		front := ""
		for i := range m.r.Intn(3) {
			c := m.made(2)
			if !c.ok {
				continue
			}
			name := fmt.Sprintf("B%d", i)
			front += name + "=" + c.text + ","
			m.known = append(m.known, constantBy{name, c.word, false, true})
		}
		c := m.made(1 + m.r.Intn(4))
		if c.ok {
			constants.Add(1)
			isEnumer(t, front, c.text, c.word)
			return
		}
		none.Add(1)
		source := "enum E{" + front + "A=" + c.text + "};" + emptyMain
		if _, code, _, _ := impl.Build([]byte(source), 64); code != 27 {
			t.Errorf("%s: %d", source, code)
		}
	})
	if constants.Load() < 900 || none.Load() < 100 {
		t.Errorf("%d constants, %d that are none", constants.Load(), none.Load())
	}
}
