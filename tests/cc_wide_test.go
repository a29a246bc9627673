package tests

import (
	"fmt"
	"math/rand"
	"strings"
)

// wideMaker makes up sources that are never undefined and that need many registers at a time, so that some of these stand in
// the stack, and have great locals, so that these and what is kept stand far off in their frame.
type wideMaker struct {
	r       *rand.Rand
	out     strings.Builder
	funs    []wideFun
	places  []string // scalars that hold something
	arrays  []wideArray
	records []string
	counts  int
	loops   int
}

type wideFun struct {
	name   string
	gives  string
	params []string
}

// wideArray has a number of elements that is some bits and one more.
type wideArray struct {
	name string
	bits int
}

const wideTops = `struct R { char t[#]; int n; short h; unsigned char b; };
struct R gr, gs[2]; int ga[64], gn; unsigned gu = 3000000000; char gc[256]; short gh = -2; int depth;
int mix(int a, int b, int c, int d, int e, int f, int g, int h) { return a + 2 * b - 3 * c + (d ^ e) - (f & g) + h; }
int same(int a) { return a; }
`

func (m *wideMaker) in(n int) bool               { return m.r.Intn(n) == 0 }
func (m *wideMaker) of(list ...string) string    { return list[m.r.Intn(len(list))] }
func (m *wideMaker) put(format string, a ...any) { fmt.Fprintf(&m.out, format, a...) }

func (m *wideMaker) place() string {
	switch m.r.Intn(8) {
	case 0:
		a := m.arrays[m.r.Intn(len(m.arrays))]
		return fmt.Sprintf("%s[%s&%d]", a.name, m.of(m.places...), a.bits)
	case 1:
		return m.of(m.records...) + m.of(".n", ".h", ".b", ".t[9]")
	case 2:
		return m.of("gn", "gu", "gh", "(*&gn)")
	}
	return m.of(m.places...)
}

// leaf is a number that takes one register, or a few.
func (m *wideMaker) leaf() string {
	if m.in(4) {
		return m.of("1", "7u", "(-3)", "2147483647", "70000", "'z'", "4000000000", "sizeof(struct R)")
	}
	return m.place()
}

// number nests so that many are held at a time: the first of each operator waits for the second.
func (m *wideMaker) number(deep int) string {
	text, close := "", 0
	for range m.r.Intn(deep + 1) {
		close++
		switch m.r.Intn(12) {
		case 0:
			text += m.leaf() + m.of("/", "%") + "(1|("
			close++
		case 1:
			text += m.leaf() + m.of("<<", ">>") + "(31&("
			close++
		case 2:
			text += m.of("-", "~", "!", "(char)", "(short)", "(unsigned char)") + "("
		case 3:
			text += fmt.Sprintf("%s?%s:(", m.leaf(), m.leaf())
		case 4:
			text += m.leaf() + m.of("&&", "||") + "("
		case 5:
			text += m.leaf() + "+same("
		case 6:
			text += fmt.Sprintf("mix(%s,%s,%s,%s,%s,%s,%s,", m.leaf(), m.leaf(), m.leaf(), m.leaf(), m.leaf(), m.leaf(), m.leaf())
		case 7:
			text += m.place() + m.of("=", "+=", "-=", "^=") + "("
		default:
			text += m.leaf() + m.of("+", "-", "*", "&", "|", "^", "<", ">=", "==", "!=") + "("
		}
	}
	inner := m.leaf()
	if m.in(3) {
		inner = m.called()
	}
	return text + inner + strings.Repeat(")", close)
}

func (m *wideMaker) called() string {
	if len(m.funs) == 0 || m.loops > 0 {
		return "same(" + m.leaf() + ")"
	}
	f := m.funs[m.r.Intn(len(m.funs))]
	args := []string{}
	for _, class := range f.params {
		switch class {
		case "int *":
			args = append(args, m.of("&gn", "ga+(gn&63)"))
		case "struct R *":
			args = append(args, "&"+m.of(m.records...))
		default:
			args = append(args, m.leaf())
		}
	}
	return f.name + "(" + strings.Join(args, ",") + ")"
}

func (m *wideMaker) step(deep int) {
	switch m.r.Intn(10) {
	default:
		m.put("%s%s%s;\n", m.place(), m.of("=", "=", "+=", "^=", "-="), m.number(14))
	case 4:
		m.put("%s%s;\n", m.place(), m.of("++", "--"))
	case 5:
		m.put("%s=%s;\n", m.of(m.records...), m.of(m.records...))
	case 6:
		m.put("putchar(%s);\n", m.number(3))
	case 7:
		m.put("if(%s){%s=%s;}else{%s=%s;}\n", m.number(4), m.place(), m.number(6), m.place(), m.number(6))
	case 8:
		if deep > 0 {
			m.counts++
			m.loops++
			m.put("for(int k%d=0;k%d<%d;k%d++){", m.counts, m.counts, 1+m.r.Intn(3), m.counts)
			for range 1 + m.r.Intn(3) {
				m.step(deep - 1)
			}
			m.put("}\n")
			m.loops--
		}
	case 9:
		m.put("switch(%s&3){case 0:%s=%s;case 2:%s++;break;default:%s=%s;}\n", m.leaf(), m.place(), m.number(5), m.place(), m.place(), m.number(5))
	}
}

func (m *wideMaker) function(name, gives string, params []string) {
	m.places, m.arrays, m.records = []string{"gn", "gh"}, []wideArray{{"ga", 63}, {"gc", 255}}, []string{"gr", "gs[1]", "gs[gn&1]"}
	texts := []string{}
	for i, class := range params {
		texts = append(texts, fmt.Sprintf("%s p%d", class, i))
		switch class {
		case "int *":
			m.places = append(m.places, fmt.Sprintf("(*p%d)", i))
		case "struct R *":
			m.records = append(m.records, fmt.Sprintf("(*p%d)", i))
		default:
			m.places = append(m.places, fmt.Sprintf("p%d", i))
		}
	}
	m.put("%s %s(%s){\n", gives, name, strings.Join(append(texts, "void")[:max(1, len(texts))], ","))
	if m.in(2) {
		bits := []int{31, 511, 4095}[m.r.Intn(3)]
		m.put("%s a[%d]={1,2,3};struct R r=gr,q=gs[0];\n", m.of("char", "short", "unsigned char"), bits+1)
		m.arrays, m.records = append(m.arrays, wideArray{"a", bits}), append(m.records, "r", "q")
	}
	for i := range []int{3, 12, 30, 60}[m.r.Intn(4)] {
		m.put("%s v%d=%s;", m.of("int", "int", "unsigned", "char", "unsigned char", "short", "unsigned short"), i, m.number(2))
		m.places = append(m.places, fmt.Sprintf("v%d", i))
		if m.in(12) {
			// It is in a slot then.
			m.put("&v%d;", i)
		}
	}
	m.put("\n")
	for range 2 + m.r.Intn(5) {
		m.step(2)
	}
	// All that is there is used at the end, so that it is held all the while.
	m.put("gn=%s;\n", strings.Join(m.places[:min(len(m.places), 100)], "^"))
	if gives != "void" {
		m.put("return %s;", m.number(4))
	}
	m.put("}\n")
	m.funs = append(m.funs, wideFun{name, gives, params})
}

// madeWideRun makes a whole program. The records are small, or great enough that what lies behind them is far off.
func madeWideRun(r *rand.Rand) string {
	m := &wideMaker{r: r}
	m.put("%s", fill(wideTops, []int{12, 100, 2100}[r.Intn(3)]))
	for i := range r.Intn(3) {
		params := []string{}
		for range r.Intn(9) {
			params = append(params, m.of("int", "unsigned", "char", "short", "unsigned char", "int *", "struct R *"))
		}
		m.function(fmt.Sprintf("f%d", i), m.of("int", "char", "unsigned short"), params)
	}
	m.function("main", "int", nil)
	return m.out.String()
}
