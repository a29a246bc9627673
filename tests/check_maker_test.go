package tests

import (
	"fmt"
	"math/rand"
	"strings"
	"testing"
)

// programMaker makes up sources that are right but for some slips now and then. Variables are known by the class of their
// type; a class's text is its declaration with the name in the place of the #.
type programMaker struct {
	r      *rand.Rand
	slips  int // one in so many
	out    strings.Builder
	scopes [][]variable
	labels int
	names  int
	loops  int
	cases  []int
	inFun  bool
}

type variable struct{ class, name string }

var classTexts = map[string]string{
	"char": "char #", "uchar": "unsigned char #", "short": "short #", "ushort": "unsigned short #", "int": "int #", "uint": "unsigned #",
	"*int": "int *#", "*char": "char *#", "*void": "void *#", "*S": "struct S *#", "*fun": "int (*#)(int, char)", "**int": "int **#", "*arr": "int (*#)[3]",
	"[int": "int #[3]", "[char": "char #[4]", "[S": "struct S #[2]", "[[short": "short #[2][2]", "S": "struct S #", "U": "union U #", "[*char": "char *#[2]", "T": "T #",
}

var (
	arithmetics = strings.Fields("char uchar short ushort int uint")
	pointers    = strings.Fields("*int *char *void *S *fun **int *arr")
	wholes      = strings.Fields("[int [char [S [[short S U [*char T")
)

func (m *programMaker) in(n int) bool            { return m.r.Intn(n) == 0 }
func (m *programMaker) slip() bool               { return m.slips > 0 && m.in(m.slips) }
func (m *programMaker) of(list ...string) string { return list[m.r.Intn(len(list))] }
func (m *programMaker) put(parts ...string)      { m.out.WriteString(strings.Join(parts, "")) }

func (m *programMaker) class() string {
	switch m.r.Intn(5) {
	case 0, 1:
		return m.of(arithmetics...)
	case 2, 3:
		return m.of(pointers...)
	}
	return m.of(wholes...)
}

func (m *programMaker) name() string {
	m.names++
	if m.slip() {
		return m.of("a", "b", "x0", "x1", "main", "putchar")
	}
	return fmt.Sprintf("x%d", m.names)
}

func (m *programMaker) declared(class, name string) string {
	return strings.Replace(classTexts[class], "#", name, 1)
}

func (m *programMaker) note(class, name string) {
	at := len(m.scopes) - 1
	m.scopes[at] = append(m.scopes[at], variable{class, name})
}

// known gives a variable of a class, and false when there is none.
func (m *programMaker) known(class string) (string, bool) {
	if m.slip() {
		class = m.class()
	}
	names := []string{}
	for _, scope := range m.scopes {
		for _, v := range scope {
			if v.class == class {
				names = append(names, v.name)
			}
		}
	}
	if len(names) == 0 {
		return "", false
	}
	return m.of(names...), true
}

// place gives a place of a scalar class.
func (m *programMaker) place(class string, deep int) string {
	if name, ok := m.known(class); ok && (deep <= 0 || m.in(2)) {
		return name
	}
	if deep > 0 {
		d := deep - 1
		switch class {
		case "int":
			return m.of("*("+m.pointer("*int", d)+")", m.element("[int", d), m.record(d)+".a", m.element("[int", d), "("+m.pointer("*S", d)+")->a", "("+m.pointer("*arr", d)+")[0]["+m.number(d)+"]", "T0.a[1]")
		case "char":
			return m.of("*("+m.pointer("*char", d)+")", m.element("[char", d), m.record(d)+".b", "(*("+m.pointer("*S", d)+")).b", "gu.c[0]")
		case "short":
			return m.of("gss["+m.number(d)+"][1]", m.record(d)+".c[0]")
		case "*S":
			return m.of(m.record(d)+".n", "("+m.pointer("*S", d)+")->n")
		case "*int":
			return "*(" + m.pointer("**int", d) + ")"
		}
	}
	if name, ok := m.known(class); ok {
		return name
	}
	return "g_" + strings.NewReplacer("*", "p", "[", "a").Replace(class)
}

func (m *programMaker) element(class string, deep int) string {
	name, ok := m.known(class)
	if !ok {
		name = map[string]string{"[int": "gai", "[char": "gac", "[S": "gas"}[class]
	}
	return name + "[" + m.number(deep) + "]"
}

func (m *programMaker) record(deep int) string {
	if name, ok := m.known("S"); ok && m.in(2) {
		return name
	}
	return m.of("gs", m.element("[S", deep), "gas[1]", "(*("+m.pointer("*S", deep)+"))")
}

// number makes an expr of some arithmetic type.
func (m *programMaker) number(deep int) string {
	if m.slip() {
		return m.anything(deep)
	}
	if deep <= 0 {
		return m.of("0", "1", "2u", "'a'", "65536", "K1", "K0", "sizeof(struct S)", m.place(m.of(arithmetics...), 0))
	}
	d := deep - 1
	switch m.r.Intn(15) {
	case 0, 1, 2:
		return m.place(m.of(arithmetics...), d)
	case 3, 4, 5:
		return "(" + m.number(d) + ")" + m.of("*", "/", "%", "+", "-", "<<", ">>", "<", ">", "<=", ">=", "==", "!=", "&", "^", "|", "&&", "||") + "(" + m.number(d) + ")"
	case 6:
		return m.of("-", "~", "!", "+") + "(" + m.number(d) + ")"
	case 7:
		return "(" + m.of(arithmetics[2], "char", "unsigned", "unsigned char", "enum E", "int") + ")(" + m.number(d) + ")"
	case 8:
		return "(" + m.test(d) + "?" + m.number(d) + ":(" + m.number(d) + "))"
	case 9:
		return "(" + m.place(m.of(arithmetics...), d) + m.of("=", "+=", "-=", "*=", "/=", "%=", "<<=", ">>=", "&=", "|=", "^=") + m.number(d) + ")"
	case 10:
		return m.stepped(m.place(m.of(arithmetics...), d))
	case 11:
		return m.of("f1("+m.number(d)+","+m.number(d)+")", "("+m.pointer("*fun", d)+")("+m.number(d)+","+m.number(d)+")", "putchar("+m.number(d)+")", "getchar()", "f2("+m.pointer("*int", d)+","+m.pointer("*S", d)+","+m.pointer("*void", d)+")")
	case 12:
		class := m.of(pointers...)
		if class == "*fun" || class == "*void" {
			return "((" + m.pointer(class, d) + ")" + m.of("==", "!=") + m.of("0", "("+m.pointer(class, d)+")") + ")"
		}
		return "((" + m.pointer(class, d) + ")" + m.of("==", "<", "-", "!=", ">=", ">") + "(" + m.pointer(class, d) + "))"
	case 13:
		return m.of("sizeof("+m.number(d)+")", "sizeof("+m.pointer("*S", d)+")", "!("+m.pointer(m.of(pointers...), d)+")", "sizeof("+strings.Replace(classTexts[m.class()], "#", "", 1)+")", "sizeof \"ab\"")
	}
	return "(" + m.anyValue(d) + "," + m.number(d) + ")"
}

func (m *programMaker) stepped(place string) string {
	return strings.Replace(m.of("(#)++", "(#)--", "++(#)", "--(#)"), "#", place, 1)
}

func (m *programMaker) test(deep int) string {
	if m.in(3) {
		return "(" + m.pointer(m.of(pointers...), deep) + ")"
	}
	return "(" + m.number(deep) + ")"
}

// pointer makes an expr of a pointer class.
func (m *programMaker) pointer(class string, deep int) string {
	if m.slip() {
		return m.anything(deep)
	}
	own := map[string][]string{
		"*int": {"gai", "&gi", "&gs.a", "gai+1"}, "*char": {"gac", "\"s\"", "&gs.b", "gu.c"}, "*void": {"&gi", "(void*)0", "gac"}, "*S": {"&gs", "gas", "gas+1"},
		"*fun": {"f1", "&f1", "*f1"}, "**int": {"&g_pint"}, "*arr": {"&gai"},
	}[class]
	if deep <= 0 {
		return m.of(append(own, m.place(class, 0), m.place(class, 0))...)
	}
	d := deep - 1
	moves := class != "*void" && class != "*fun"
	switch m.r.Intn(9) {
	case 0, 1, 2:
		return m.place(class, d)
	case 3:
		if moves {
			return strings.NewReplacer("#", m.pointer(class, d), "%", m.number(d)).Replace(m.of("((#)+(%))", "((#)-(%))", "((%)+(#))"))
		}
	case 4:
		if moves {
			return m.of("("+m.stepped(m.place(class, d))+")", "("+m.place(class, d)+m.of("+=", "-=")+m.number(d)+")")
		}
	case 5:
		return "(" + m.place(class, d) + "=" + m.of("0", m.pointer(class, d)) + ")"
	case 6:
		return "(" + m.test(d) + "?" + m.of("0:("+m.pointer(class, d)+")", "("+m.pointer(class, d)+"):0", "("+m.pointer(class, d)+"):("+m.pointer(class, d)+")") + ")"
	case 7:
		if class != "*fun" {
			return "(" + strings.Replace(classTexts[class], "#", "", 1) + ")(" + m.pointer(m.of("*int", "*void", "*S", "*char"), d) + ")"
		}
		return "(int(*)(int,char))" + m.of("f1", "0")
	}
	return m.of(own...)
}

func (m *programMaker) anyValue(deep int) string {
	return m.of(m.number(deep), m.pointer(m.of(pointers...), deep), "f0()", m.record(deep), "gu", "(void)("+m.number(deep)+")", "("+m.record(deep)+"="+m.record(deep)+")")
}

// anything is where a slip goes.
func (m *programMaker) anything(deep int) string {
	return m.of("f0()", "gs", "gu", "gai", "f1", "nil", "putchar", "1", "0", "(1,2)", "\"q\"", "K1", "main", m.place(m.of(arithmetics...), 0), m.pointer(m.of(pointers...), 0), "1/0", "gs.z", "f1(1)", "*gi", "3=4", "&5", "sizeof(void)")
}

// constant makes one up.
func (m *programMaker) constant(deep int) string {
	if m.slip() {
		return m.anything(deep)
	}
	if deep <= 0 {
		return m.of("0", "1", "3", "7u", "'b'", "K1", "K2", "4294967295", "sizeof(int)", "sizeof gs")
	}
	d := deep - 1
	switch m.r.Intn(5) {
	case 0:
		return m.of("-", "~", "!", "+") + "(" + m.constant(d) + ")"
	case 1:
		return "(" + m.of("char", "unsigned char", "short", "unsigned", "int") + ")(" + m.constant(d) + ")"
	case 2:
		return "(" + m.constant(d) + ")?(" + m.constant(d) + "):(" + m.constant(d) + ")"
	case 3:
		return "(" + m.constant(d) + ")" + m.of("/", "%") + "((" + m.constant(d) + ")|1)"
	}
	return "(" + m.constant(d) + ")" + m.of("*", "+", "-", "<", ">", "<=", ">=", "==", "!=", "&", "^", "|", "&&", "||") + "(" + m.constant(d) + ")"
}

func (m *programMaker) address(class string) string {
	if m.slip() {
		return m.anything(0)
	}
	return m.of(append(map[string][]string{
		"*int": {"gai", "gai+2", "&gai[1]", "1+gai", "&gi", "&gs.a", "(int*)gac", "gai+3-1"}, "*char": {"gac", "\"lit\"", "\"lit\"+1", "(char*)gai+3", "&gac[2]"}, "*void": {"&gi", "gas+1", "\"v\""}, "*S": {"&gs", "gas+2", "&gas[1]"},
		"*fun": {"f1", "&f1"}, "**int": {"&g_pint"}, "*arr": {"&gai", "&gai+1"},
	}[class], "0")...)
}

// init makes one up for a class, with exprs or constants.
func (m *programMaker) init(class string) string {
	if m.slip() {
		return m.of("{1}", "1", "{{1}}", "\"abcde\"", "{1,2,3,4,5}", "gs", "{}", "nil")
	}
	number, pointer := func() string { return m.constant(2) }, m.address
	if m.inFun {
		number, pointer = func() string { return m.number(1) }, func(class string) string { return m.pointer(class, 1) }
	}
	if m.inFun && class == "S" && m.in(3) {
		return m.record(1)
	}
	list := func(most int, of func() string) string {
		out := []string{}
		for range 1 + m.r.Intn(most) {
			out = append(out, of())
		}
		return "{" + strings.Join(out, ",") + m.of("", "", ",") + "}"
	}
	switch class {
	case "[int":
		return list(3, number)
	case "[char":
		return m.of(list(4, number), "\"abcd\"", "\"abc\"", "\"\"", "\"\\377\\0x\"")
	case "[S":
		return list(2, func() string { return m.init("S") })
	case "[[short":
		return list(2, func() string { return list(2, number) })
	case "[*char":
		return list(2, func() string { return pointer("*char") })
	case "S":
		return m.of("{"+number()+"}", "{"+number()+","+number()+"}", "{"+number()+","+number()+","+pointer("*S")+"}", "{"+number()+","+number()+",0,"+list(2, number)+"}")
	case "U":
		return "{" + number() + "}"
	case "T":
		return m.of("{{"+number()+","+number()+"}}", "{{1},\"xy\"}", "{{1},\"\",{"+number()+"}}")
	}
	if strings.HasPrefix(class, "*") {
		return pointer(class)
	}
	return number()
}

func (m *programMaker) variable() {
	class, name := m.class(), m.name()
	text := m.declared(class, name)
	m.note(class, name)
	if !m.in(3) {
		if m.in(3) && (class == "[int" || class == "[char") {
			text = strings.NewReplacer("[3]", "[]", "[4]", "[]").Replace(text)
		}
		text += "=" + m.init(class)
	}
	m.put(text, ";")
}

func (m *programMaker) block(deep int) {
	m.put("{")
	m.scopes = append(m.scopes, nil)
	for range m.r.Intn(4) {
		if m.in(3) {
			m.variable()
		} else {
			m.stmt(deep - 1)
		}
	}
	m.scopes = m.scopes[:len(m.scopes)-1]
	m.put("}")
}

func (m *programMaker) loop(deep int) {
	m.loops++
	m.stmt(deep - 1)
	m.loops--
}

func (m *programMaker) stmt(deep int) {
	kind := m.r.Intn(14)
	if deep <= 0 {
		kind = m.r.Intn(4)
	}
	switch kind {
	default:
		m.put(m.anyValue(2), ";")
	case 2:
		m.put(m.of(";", "return "+m.number(2)+";", "return "+m.number(1)+";"))
	case 3:
		m.jump()
	case 4:
		m.block(deep)
	case 5:
		m.put("if(", m.test(2), ")")
		m.block(deep)
		if m.in(2) {
			m.put("else ")
			m.stmt(deep - 1)
		}
	case 6:
		m.put("while(", m.test(2), ")")
		m.loop(deep)
	case 7:
		m.put("do ")
		m.loop(deep)
		m.put("while(", m.test(1), ");")
	case 8:
		m.scopes = append(m.scopes, nil)
		m.put("for(")
		if m.in(2) {
			m.variable()
		} else {
			m.put(m.of(";", m.anyValue(1)+";"))
		}
		m.put(m.of(";", m.test(1)+";"), m.of(")", m.anyValue(1)+")"))
		m.loop(deep)
		m.scopes = m.scopes[:len(m.scopes)-1]
	case 9, 10:
		m.put("switch(", m.number(2), ")")
		m.cases = append(m.cases, 0)
		m.stmt(deep - 1)
		m.cases = m.cases[:len(m.cases)-1]
	case 11:
		if at := len(m.cases) - 1; at >= 0 && !m.slip() {
			m.cases[at]++
			m.put(fmt.Sprintf("case %d:", m.cases[at]))
		} else if m.slip() {
			m.put(m.of("default:", "case "+m.constant(1)+":"))
		}
		m.stmt(deep - 1)
	case 12:
		m.labels++
		m.put(fmt.Sprintf("L%d:", m.labels))
		m.stmt(deep - 1)
	}
}

func (m *programMaker) jump() {
	switch {
	case m.loops > 0 && m.in(2) || m.slip():
		m.put(m.of("break;", "continue;"))
	case m.slip():
		m.put("goto L1;")
	case m.labels > 0 && m.in(2):
		m.put(fmt.Sprintf("goto L%d;", 1+m.r.Intn(m.labels)))
	default:
		m.put(";")
	}
}

// program makes a whole source.
func (m *programMaker) program() string {
	m.put("enum E{K0,K1,K2=K1*5,K3=-1};struct S{int a;char b;struct S*n;short c[2];};union U{int a;char c[6];};\n")
	m.put("struct V{int a[2];char t[3];short s[2];};typedef struct V T;T T0;\n")
	m.put("int gi,gai[3],*g_pint,**g_ppint,(*g_pfun)(int,char),(*g_parr)[3],g_int;char gac[4],g_char,*g_pchar;unsigned char g_uchar;short g_short,gss[2][2];unsigned short g_ushort;unsigned g_uint;void*g_pvoid;struct S gs,gas[2],*g_pS;union U gu;\n")
	m.put("int f1(int,char);void f0(void){}int f2(int*p,struct S*s,void*v){return s->a+*p+(v==p);}\n")
	m.scopes = [][]variable{nil}
	for range m.r.Intn(5) {
		m.variable()
		m.put("\n")
	}
	m.put("int f1(int a,char b)")
	m.function([]variable{{"int", "a"}, {"char", "b"}})
	if m.in(2) {
		m.put("struct S*f3(struct S*p,unsigned short q,int(*r)(int,char)){return p?p:0;}\n")
		m.variable()
	}
	m.put("int main(void)")
	m.function(nil)
	return m.out.String()
}

func (m *programMaker) function(params []variable) {
	m.inFun, m.labels = true, 0
	m.scopes = append(m.scopes, params)
	m.put("{")
	for range 1 + m.r.Intn(7) {
		if m.in(3) {
			m.variable()
		} else {
			m.stmt(3)
		}
	}
	m.put("return ", m.number(2), ";}\n")
	m.scopes = m.scopes[:1]
	m.inFun = false
}

func madeProgram(r *rand.Rand, slips int) string {
	m := &programMaker{r: r, slips: slips}
	return m.program()
}

func TestMadeUpPrograms(t *testing.T) {
	t.Parallel()
	right := 0
	for seed := range 1200 {
		r := rand.New(rand.NewSource(int64(seed)))
		_, code, _, _ := check(t, madeProgram(r, []int{0, 400, 150, 60}[seed%4]))
		right += oneIf(code == 0)
	}
	if right < 700 || right > 1150 {
		t.Errorf("%d made-up programs are right", right)
	}
}
