package tests

import (
	"fmt"
	"math/rand"
	"strings"
)

// runMaker makes up sources that are right, that mostly come to their end, and that mostly are not undefined: what could
// be so is guarded, but for some slips. Names are known by the class of their type, as in classTexts.
type runMaker struct {
	r      *rand.Rand
	slips  int // one in so many, or none for 0
	out    strings.Builder
	scopes [][]variable
	names  int
	loops  int
	funs   []madeFun
	gives  string
}

type madeFun struct {
	name   string
	gives  string
	params []string
}

const runTops = `enum E { K0, K1, K2 = 5, K3 = -7 };
struct S { char c; int n; short h[2]; int *p; };
union U { int i; unsigned char b[4]; short h[2]; };
int gi = 3, gz, ga[4] = { 1, -2, 3 }, *gp = ga + 1; unsigned gu = 4000000000; char gc = -5, gs[8] = "abcdefg", *gq = "text";
unsigned char gb[4] = { 250, 251 }; short gh = -300; unsigned short gw = 65000; struct S sa = { 'x', 9, { 1, -1 }, &gi }, sb[2]; union U ux;
int twice(int a, int b) { return a * 2 + b; }
int less(int a, int b) { return a - b; }
int (*gf)(int, int) = twice, (*gt[2])(int, int) = { twice, less };
`

func (m *runMaker) in(n int) bool            { return m.r.Intn(n) == 0 }
func (m *runMaker) slip() bool               { return m.slips > 0 && m.in(m.slips) }
func (m *runMaker) of(list ...string) string { return list[m.r.Intn(len(list))] }
func (m *runMaker) put(parts ...string)      { m.out.WriteString(strings.Join(parts, "")) }

func (m *runMaker) fresh(begin string) string {
	m.names++
	return fmt.Sprintf("%s%d", begin, m.names)
}

func (m *runMaker) note(class, name string) {
	at := len(m.scopes) - 1
	m.scopes[at] = append(m.scopes[at], variable{class, name})
}

func (m *runMaker) known(class string) []string {
	names := []string{}
	for _, scope := range m.scopes {
		for _, v := range scope {
			if v.class == class {
				names = append(names, v.name)
			}
		}
	}
	return names
}

// one picks from these and from the locals of a class.
func (m *runMaker) one(class string, globals ...string) string {
	names := m.known(class)
	if len(names) > 0 && !m.in(4) {
		return m.of(names...)
	}
	return m.of(append(globals, names...)...)
}

// place gives a scalar that can be read and written.
func (m *runMaker) place(deep int) string {
	d := deep - 1
	if deep <= 0 {
		return m.one("int", "gi", "gz", "gc", "gh", "gu", "gw")
	}
	switch m.r.Intn(12) {
	case 0, 1:
		return m.one("int", "gi", "gz")
	case 2:
		return m.one("uint", "gu")
	case 3:
		return m.one("char", "gc")
	case 4:
		return m.of(m.one("short", "gh"), m.one("ushort", "gw"), m.one("uchar", "gb[1]"))
	case 5:
		return m.one("[int", "ga") + "[" + m.masked(d, 3) + "]"
	case 6:
		return m.one("[char", "gs") + "[" + m.masked(d, 7) + "]"
	case 7:
		return m.record(d) + m.of(".n", ".c", ".h["+m.masked(d, 1)+"]")
	case 8:
		return "*" + m.pointer(d)
	case 9:
		return m.of("*sa.p", "*gp", "gb["+m.masked(d, 3)+"]")
	case 10:
		return "ux." + m.of("i", "b["+m.masked(d, 3)+"]", "h["+m.masked(d, 1)+"]")
	}
	return "(&" + m.record(d) + ")->n"
}

// masked makes a number in 0 .. most, that being some bits.
func (m *runMaker) masked(deep, most int) string {
	if m.slip() {
		return m.number(deep)
	}
	if m.in(2) {
		return fmt.Sprint(m.r.Intn(most + 1))
	}
	return "(" + m.number(deep) + "&" + fmt.Sprint(most) + ")"
}

func (m *runMaker) record(deep int) string {
	return m.one("S", "sa", "sb[1]", "sb["+m.masked(deep, 1)+"]", "(*(sb+"+m.masked(deep, 1)+"))")
}

// pointer makes a pointer to an int.
func (m *runMaker) pointer(deep int) string {
	if m.slip() {
		return m.of("(ga+4)", "(int*)0", "(ga-1)", "(int*)gs", "sb[0].p", "(int*)(gs+1)")
	}
	d := deep - 1
	if deep <= 0 {
		return m.of("gp", "(&gi)", "ga")
	}
	switch m.r.Intn(7) {
	case 0:
		return "(ga+" + m.masked(d, 3) + ")"
	case 1:
		return "(" + m.masked(d, 3) + "+" + m.one("[int", "ga") + ")"
	case 2:
		return "(&" + m.one("int", "gi", "gz") + ")"
	case 3:
		return "(" + m.test(d) + "?" + m.pointer(d) + ":" + m.pointer(d) + ")"
	case 4:
		return "(gp=" + m.of("&gi", "ga+"+m.masked(d, 3)) + ")"
	case 5:
		return "(" + m.value(d) + "," + m.pointer(d) + ")"
	}
	return m.one("*int", "gp", "sa.p")
}

func (m *runMaker) test(deep int) string {
	switch m.r.Intn(6) {
	case 0:
		return "(" + m.pointer(deep) + m.of("==", "!=") + m.of("0", m.pointer(deep)) + ")"
	case 1:
		return "(" + m.number(deep) + m.of("<", ">", "<=", ">=", "==", "!=") + m.number(deep) + ")"
	case 2:
		return "(" + m.test(deep-1) + m.of("&&", "||") + m.number(deep) + ")"
	}
	return "(" + m.number(deep) + ")"
}

func (m *runMaker) value(deep int) string {
	return m.of(m.number(deep), m.number(deep), m.pointer(deep), "("+m.record(deep)+"="+m.record(deep)+")")
}

// number makes a number.
func (m *runMaker) number(deep int) string {
	if deep <= 0 {
		return m.of("0", "1", "2", "7u", "'a'", "K2", "K3", "65536", "4294967295", "sizeof(struct S)", m.place(0), m.place(0), m.place(0))
	}
	d := deep - 1
	switch m.r.Intn(16) {
	case 0, 1, 2:
		return m.place(d)
	case 3, 4:
		return "(" + m.number(d) + m.of("+", "-", "*", "&", "|", "^", "<", ">", "<=", ">=", "==", "!=") + m.number(d) + ")"
	case 5:
		if m.slip() {
			return "(" + m.number(d) + m.of("/", "%") + m.number(d) + ")"
		}
		return "(" + m.number(d) + m.of("/", "%") + "(" + m.number(d) + "|1))"
	case 6:
		return "(" + m.number(d) + m.of("<<", ">>") + m.masked(d, 31) + ")"
	case 7:
		return "(" + m.of("-", "~", "!", "+") + m.number(d) + ")"
	case 8:
		return "((" + m.of("char", "unsigned char", "short", "unsigned short", "unsigned", "int") + ")" + m.number(d) + ")"
	case 9:
		return "(" + m.test(d) + "?" + m.number(d) + ":" + m.number(d) + ")"
	case 10:
		return "(" + m.test(d) + m.of("&&", "||") + m.test(d) + ")"
	case 11:
		return m.changed(d)
	case 12:
		return m.called(d)
	case 13:
		return m.of("(putchar('a'+"+m.masked(d, 15)+")&15)", "(getchar()&255)", "(("+m.pointer(d)+")==("+m.pointer(d)+"))", "(ga+"+m.masked(d, 3)+"-ga)", "(&ga["+m.masked(d, 3)+"]<ga+"+m.masked(d, 3)+")", "(gq["+m.masked(d, 3)+"])")
	case 14:
		return "(" + m.value(d) + "," + m.number(d) + ")"
	}
	return m.of(m.place(d), m.number(d), "sizeof("+m.number(0)+")")
}

// changed writes a place.
func (m *runMaker) changed(deep int) string {
	place := m.place(deep)
	switch m.r.Intn(5) {
	case 0:
		return "(" + strings.Replace(m.of("#++", "#--", "++#", "--#"), "#", "("+place+")", 1) + ")"
	case 1:
		return "(" + place + m.of("+=", "-=", "*=", "&=", "|=", "^=") + m.number(deep) + ")"
	case 2:
		return "(" + place + m.of("<<=", ">>=") + m.masked(deep, 31) + ")"
	case 3:
		return "(" + place + m.of("/=", "%=") + "(" + m.number(deep) + "|1))"
	}
	return "(" + place + "=" + m.number(deep) + ")"
}

// called is a call of a function that stands in front.
func (m *runMaker) called(deep int) string {
	if len(m.funs) == 0 || m.loops > 1 || m.in(4) {
		return "(" + m.of("gf", "gt["+m.masked(deep, 1)+"]", "twice", "(*less)", "("+m.test(deep)+"?twice:less)") + ")(" + m.number(deep) + "," + m.number(deep) + ")"
	}
	f := m.funs[m.r.Intn(len(m.funs))]
	args := []string{}
	for _, class := range f.params {
		switch class {
		case "*int":
			args = append(args, m.pointer(deep))
		case "*S":
			args = append(args, "&"+m.record(deep))
		default:
			args = append(args, m.number(deep))
		}
	}
	call := f.name + "(" + strings.Join(args, ",") + ")"
	switch f.gives {
	case "void":
		return "(" + call + ",1)"
	case "int *":
		return "(*" + call + ")"
	}
	return call
}

func (m *runMaker) variable() {
	class := m.of("int", "int", "uint", "char", "uchar", "short", "ushort", "[int", "[char", "S", "*int")
	name := m.fresh("v")
	text := strings.Replace(classTexts[class], "#", name, 1)
	text = strings.Replace(strings.Replace(text, "[4]", "[8]", 1), "[3]", "[4]", 1)
	init := m.number(2)
	switch class {
	case "[int":
		init = m.of("{0}", "{"+m.number(1)+","+m.number(1)+"}")
	case "[char":
		init = m.of("{0}", "\"local\"", "{'a',"+m.number(1)+"}")
	case "S":
		init = m.of("sa", m.record(1), "{1,"+m.number(1)+",{2,3},&gi}", "{"+m.number(1)+"}")
	case "*int":
		init = m.pointer(2)
	}
	if m.slip() {
		m.put(text, ";")
	} else {
		m.put(text, "=", init, ";")
	}
	m.note(class, name)
}

func (m *runMaker) block(deep int, most int) {
	m.put("{")
	m.scopes = append(m.scopes, nil)
	for range m.r.Intn(most + 1) {
		m.step(deep - 1)
	}
	m.scopes = m.scopes[:len(m.scopes)-1]
	m.put("}\n")
}

func (m *runMaker) loop(deep int) {
	m.loops++
	count, k := m.fresh("k"), 1+m.r.Intn(3)
	switch m.r.Intn(4) {
	case 0:
		m.put(fmt.Sprintf("for(int %s=0;%s<%d;%s++)", count, count, k, count))
		m.block(deep, 3)
	case 1:
		m.put(fmt.Sprintf("int %s=%d;while(%s-->0)", count, k, count))
		m.block(deep, 3)
	case 2:
		m.put(fmt.Sprintf("int %s=%d;do", count, k))
		m.block(deep, 3)
		m.put(fmt.Sprintf("while(--%s>0);", count))
	case 3:
		m.put(fmt.Sprintf("int %s=%d;for(;%s;%s)", count, k, m.test(1), m.number(1)), "{", fmt.Sprintf("if(%s--<=0)break;", count))
		m.block(deep, 2)
		m.put("}")
	}
	m.loops--
}

func (m *runMaker) choice(deep int) {
	m.put("switch(", m.of(m.masked(2, 7), m.number(1)), "){")
	numbers := m.r.Perm(8)
	for i := range 1 + m.r.Intn(4) {
		if m.in(4) && i == 0 {
			m.put("default:")
		} else {
			m.put(fmt.Sprintf("case %d:", numbers[i]))
		}
		m.simple(deep)
		m.put(m.of("", "break;", "break;"))
	}
	m.put("}\n")
}

// jumps makes a goto and its label, each in its place: back with a count, on, into a block, or into a loop.
func (m *runMaker) jumps(deep int) {
	label, count := m.fresh("l"), m.fresh("k")
	switch m.r.Intn(4) {
	case 0:
		m.put("int ", count, "=2;", label, ":")
		m.block(deep, 2)
		m.put("if(", count, "-->0)goto ", label, ";")
	case 1:
		m.put("if(", m.test(1), ")goto ", label, ";")
		m.block(deep, 2)
		m.put(label, ":;")
	case 2:
		m.put("if(", m.test(1), ")goto ", label, ";if(", m.test(1), "){")
		m.simple(1)
		m.put("}else{")
		m.simple(1)
		m.put(label, ":")
		m.simple(1)
		m.put("}")
	case 3:
		m.put("int ", count, "=2;if(", m.test(1), ")goto ", label, ";while(", count, "-->0){")
		m.simple(1)
		m.put(label, ":")
		m.simple(1)
		m.put("}")
	}
}

// simple is a step that declares nothing.
func (m *runMaker) simple(deep int) {
	switch m.r.Intn(6) {
	case 0:
		m.put("putchar('A'+", m.masked(1, 15), ");")
	case 1:
		m.put(m.record(1), "=", m.record(1), ";")
	case 2:
		m.put("if(", m.test(2), ")", m.number(2), ";")
	default:
		m.put(m.changed(2), ";")
	}
	m.put("\n")
}

func (m *runMaker) step(deep int) {
	kind := m.r.Intn(14)
	if deep <= 0 {
		kind = m.r.Intn(5)
	}
	switch kind {
	default:
		m.simple(deep)
	case 3, 4:
		m.variable()
	case 5:
		m.put("if(", m.test(2), ")")
		m.block(deep, 3)
		if m.in(2) {
			m.put("else")
			m.block(deep, 3)
		}
	case 6, 7, 8:
		m.loop(deep)
	case 9:
		m.choice(deep)
	case 10:
		m.jumps(deep)
	case 11:
		m.block(deep, 3)
	case 12:
		if m.loops > 0 {
			m.put("if(", m.test(1), ")", m.of("break;", "continue;"))
		}
	case 13:
		if m.in(6) {
			m.put("if(", m.test(1), ")")
			m.returns()
		}
	}
}

func (m *runMaker) returns() {
	switch m.gives {
	case "void":
		m.put("return;")
	case "int *":
		m.put("return ", m.of("&gi", "gp", "ga+2"), ";")
	default:
		m.put("return ", m.number(2), ";")
	}
}

func (m *runMaker) function(name, gives string, params []string, steps int) {
	m.gives, m.scopes, m.loops = gives, [][]variable{nil}, 0
	texts := []string{}
	for _, class := range params {
		param := m.fresh("p")
		texts = append(texts, strings.Replace(classTexts[class], "#", param, 1))
		if class != "*S" {
			m.note(class, param)
		}
	}
	if len(texts) == 0 {
		texts = []string{"void"}
	}
	m.put(gives, " ", name, "(", strings.Join(texts, ","), "){\n")
	for range 1 + m.r.Intn(steps) {
		m.step(2)
	}
	if !m.in(8) {
		m.returns()
	}
	m.put("}\n")
	m.funs = append(m.funs, madeFun{name, gives, params})
}

// madeRun makes a whole program.
func madeRun(r *rand.Rand, slips int) string {
	m := &runMaker{r: r, slips: slips}
	m.put(runTops)
	for i := range r.Intn(4) {
		params := []string{}
		for range r.Intn(4) {
			params = append(params, m.of("int", "uint", "char", "uchar", "short", "ushort", "*int", "*S"))
		}
		m.function(fmt.Sprintf("f%d", i), m.of("int", "int", "unsigned", "char", "short", "void", "int *"), params, 5)
	}
	m.function("main", "int", nil, 8)
	return m.out.String()
}
