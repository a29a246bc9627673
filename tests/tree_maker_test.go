package tests

import (
	"math/rand"
	"slices"
	"strings"

	"loop.example/s01681/impl"
)

// maker makes up valid trees without places. A name may be used as such up to the typedef that makes it an alias.
type maker struct {
	r       *rand.Rand
	aliases []string
}

const someWords = "a b c x y z f main i_0 T U Size_t"

func (m *maker) oneIn(n int) bool { return m.r.Intn(n) == 0 }

func (m *maker) word() string {
	words := strings.Fields(someWords)
	return words[m.r.Intn(len(words))]
}

func (m *maker) name() string {
	for {
		if word := m.word(); !slices.Contains(m.aliases, word) {
			return word
		}
	}
}

// several makes up to most kids, and no fewer than least.
func (m *maker) several(least, most int, one func() *grown) []*grown {
	out := []*grown{}
	for range least + m.r.Intn(most-least+1) {
		out = append(out, one())
	}
	return out
}

func (m *maker) unit(most, depth int) *grown {
	return grow("unit", m.several(0, most, func() *grown { return m.top(depth) })...)
}

func (m *maker) top(depth int) *grown {
	switch m.r.Intn(8) {
	case 0, 1:
		g := grow("typedef", m.kind(depth)).s(m.name())
		m.aliases = append(m.aliases, g.S)
		return g
	case 2:
		field := func() *grown { return grow("field", m.kind(depth)).s(m.name()) }
		return grow("structure", m.several(1, 4, field)...).m(1 + m.r.Intn(2)).s(m.word())
	case 3:
		enumer := func() *grown { return grow("enumer", m.several(0, 1, m.exprs(depth))...).s(m.name()) }
		return grow("enumeration", m.several(1, 5, enumer)...).s(m.word())
	case 4, 5:
		return grow("definition", m.function(depth), m.block(depth)).s(m.name())
	}
	return m.variable(depth)
}

func (m *maker) variable(depth int) *grown {
	init := m.several(0, 1, func() *grown { return m.init(depth) })
	return grow("var", append([]*grown{m.kind(depth)}, init...)...).s(m.name())
}

func (m *maker) init(depth int) *grown {
	if depth > 0 && m.oneIn(3) {
		return grow("list", m.several(1, 5, func() *grown { return m.init(depth - 1) })...)
	}
	return m.expr(depth)
}

func (m *maker) specs() *grown {
	switch m.r.Intn(4) {
	case 0:
		return grow("tag").m(1 + m.r.Intn(3)).s(m.word())
	case 1:
		if len(m.aliases) > 0 {
			return grow("alias").s(m.aliases[m.r.Intn(len(m.aliases))])
		}
	}
	return grow("base").n(1 + m.r.Intn(7))
}

func (m *maker) kind(depth int) *grown {
	if depth <= 0 {
		return m.specs()
	}
	switch m.r.Intn(6) {
	case 0, 1:
		return grow("pointer", m.kind(depth-1))
	case 2:
		return grow("array", append([]*grown{m.kind(depth - 1)}, m.several(0, 1, m.exprs(depth-2))...)...)
	case 3:
		return m.function(depth - 1)
	}
	return m.specs()
}

func (m *maker) function(depth int) *grown {
	params := m.several(0, 4, func() *grown { return m.param(depth - 1) })
	if len(params) == 1 && params[0].S == "" && params[0].kids[0].K == kindOf("base") && params[0].kids[0].N == 1 {
		params[0].S = m.name()
	}
	return grow("function", append([]*grown{m.kind(depth - 1)}, params...)...)
}

func (m *maker) param(depth int) *grown {
	g := grow("param", m.kind(depth))
	if !m.oneIn(3) {
		g.S = m.name()
	}
	return g
}

func (m *maker) block(depth int) *grown {
	return grow("block", m.several(0, 3, func() *grown {
		if m.oneIn(4) {
			return m.variable(depth - 1)
		}
		return m.stmt(depth - 1)
	})...)
}

func (m *maker) expressionOrEmpty(depth int) *grown {
	if m.oneIn(3) {
		return grow("empty")
	}
	return grow("expression", m.expr(depth))
}

func (m *maker) stmt(depth int) *grown {
	if depth <= 0 {
		return m.shortStmt(depth)
	}
	within := func() *grown { return m.stmt(depth - 1) }
	switch m.r.Intn(12) {
	case 0:
		return m.block(depth)
	case 1:
		return grow("if", m.expr(depth-1), within())
	case 2, 3:
		then := within()
		if isOpenBy(then) {
			then = grow("block", then)
		}
		return grow("if", m.expr(depth-1), then, within())
	case 4:
		return grow([]string{"while", "switch"}[m.r.Intn(2)], m.expr(depth-1), within())
	case 5:
		return grow("do", within(), m.expr(depth-1))
	case 6:
		first := m.expressionOrEmpty(depth - 1)
		if m.oneIn(2) {
			first = m.variable(depth - 1)
		}
		return grow("for", first, m.expressionOrEmpty(depth-1), m.expressionOrEmpty(depth-1), within())
	case 7:
		return grow("case", m.expr(depth-1), within())
	case 8:
		return grow("default", within())
	case 9:
		return grow("label", within()).s(m.name())
	}
	return m.shortStmt(depth)
}

func (m *maker) shortStmt(depth int) *grown {
	switch m.r.Intn(8) {
	case 0:
		return grow("goto").s(m.name())
	case 1:
		return grow("break")
	case 2:
		return grow("continue")
	case 3:
		return grow("return", m.several(0, 1, m.exprs(depth))...)
	}
	return m.expressionOrEmpty(depth)
}

// isOpenBy says whether an else behind a stmt would be its own.
func isOpenBy(g *grown) bool {
	switch kindNames[g.K] {
	case "if":
		return len(g.kids) == 2 || isOpenBy(g.kids[2])
	case "while", "for", "switch", "case", "default", "label":
		return isOpenBy(g.kids[len(g.kids)-1])
	}
	return false
}

func (m *maker) exprs(depth int) func() *grown {
	return func() *grown { return m.expr(depth) }
}

func (m *maker) literal() *grown {
	switch m.r.Intn(6) {
	case 0:
		return grow("number").n(m.r.Intn(1 << 31 >> m.r.Intn(31)))
	case 1:
		return grow("number").n(m.r.Intn(1 << 32 >> m.r.Intn(32))).s("u")
	case 2:
		tok := character(m.r.Intn(256))
		return grow("number").n(tok.N).s("c")
	case 3:
		text := make([]byte, m.r.Intn(4))
		for i := range text {
			text[i] = byte(m.r.Intn(256))
		}
		return grow("string").s(string(text))
	}
	return grow("name").s(m.name())
}

func (m *maker) expr(depth int) *grown {
	if depth <= 0 {
		return m.literal()
	}
	less := depth - 1
	switch m.r.Intn(20) {
	case 0:
		return grow("index", m.expr(less), m.expr(less))
	case 1:
		return grow("call", m.several(1, 4, m.exprs(less))...)
	case 2:
		return grow([]string{"member", "arrow"}[m.r.Intn(2)], m.expr(less)).s(m.word())
	case 3:
		return grow([]string{"post", "pre"}[m.r.Intn(2)], m.expr(less)).m(1 + m.r.Intn(2))
	case 4, 5:
		return grow("unary", m.expr(less)).m(1 + m.r.Intn(6))
	case 6:
		return grow("sizeofexpr", m.expr(less))
	case 7:
		return grow("sizeoftype", m.kind(less))
	case 8:
		return grow("cast", m.kind(less), m.expr(less))
	case 9, 10, 11, 12, 13:
		return grow("binary", m.expr(less), m.expr(less)).m(1 + m.r.Intn(18))
	case 14:
		return grow("condition", m.expr(less), m.expr(less), m.expr(less))
	case 15, 16:
		assigns := []int{0, 1, 2, 3, 4, 5, 6, 7, 14, 15, 16}
		return grow("assignment", m.expr(less), m.expr(less)).m(assigns[m.r.Intn(len(assigns))])
	case 17:
		return grow("comma", m.expr(less), m.expr(less))
	}
	return m.literal()
}

// madeUp makes a tree that is not too great, and not too tall.
func madeUp(r *rand.Rand, most, depth int) *grown {
	for {
		m := maker{r: r}
		if g := m.unit(most, depth); len(g.tree().Nodes) <= impl.MaxNodes {
			return g
		}
	}
}
