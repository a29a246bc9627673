package tests

import (
	"fmt"
	"regexp"
	"strings"

	"loop.example/s01681/impl"
)

// A second reading of the document's chapter on checking: types are values that are told apart by their text, cores are
// texts, constants are reckoned from the nodes, and whether a local is taken is looked up in the text of the body.

type typeBy struct {
	k      string // void char uchar short ushort int uint ptr arr fun rec
	n      int
	of     *typeBy
	params []*typeBy
	rec    *taggedBy
}

type taggedBy struct {
	word, tag string
	names     []string
	types     []*typeBy
}

var baseBy = []string{"", "void", "char", "uchar", "short", "ushort", "int", "uint"}

func plainBy(k string) *typeBy        { return &typeBy{k: k} }
func pointerBy(of *typeBy) *typeBy    { return &typeBy{k: "ptr", of: of} }
func (t *typeBy) same(u *typeBy) bool { return t.String() == u.String() }

func (t *typeBy) String() string {
	switch t.k {
	case "ptr":
		return "*" + t.of.String()
	case "arr":
		return fmt.Sprintf("[%d]%s", t.n, t.of)
	case "fun":
		return fmt.Sprintf("fun%v%s", t.params, t.of)
	case "rec":
		return t.rec.word + " " + t.rec.tag
	}
	return t.k
}

func (t *typeBy) arithmetic() bool { return strings.Contains("char uchar short ushort int uint", t.k) }
func (t *typeBy) scalar() bool     { return t.k == "ptr" || t.arithmetic() }
func (t *typeBy) complete() bool {
	return t.scalar() || t.k == "arr" && t.n > 0 || t.k == "rec" && len(t.rec.names) > 0
}
func (t *typeBy) to(k string) bool { return t.k == "ptr" && t.of.k == k }
func (t *typeBy) toWhole() bool    { return t.k == "ptr" && t.of.complete() }
func (t *typeBy) kind() string     { return t.pick("void", "i8", "u8", "i16", "u16", "w", "p", "m") }
func (t *typeBy) alike(u *typeBy) bool {
	return t.k == "ptr" && u.k == "ptr" && (t.same(u) || t.to("void") && !u.to("fun") || u.to("void") && !t.to("fun"))
}

func (t *typeBy) pick(by ...string) string {
	switch t.k {
	case "void":
		return by[0]
	case "char":
		return by[1]
	case "uchar":
		return by[2]
	case "short":
		return by[3]
	case "ushort":
		return by[4]
	case "int", "uint":
		return by[5]
	case "ptr":
		return by[6]
	}
	return by[7]
}

func roundUp(n, to int) int { return (n + to - 1) / to * to }

// layout gives size and alignment.
func (t *typeBy) layout() (int, int) {
	switch t.k {
	case "arr":
		size, align := t.of.layout()
		return size * t.n, align
	case "rec":
		size, align := 0, 1
		for i := range t.rec.names {
			s, a := t.rec.types[i].layout()
			align = max(align, a)
			if t.rec.word == "union" {
				size = max(size, s)
			} else {
				size = roundUp(size, a) + s
			}
		}
		return roundUp(size, align), align
	}
	n := map[string]int{"i8": 1, "u8": 1, "i16": 2, "u16": 2, "w": 4, "p": 4}[t.kind()]
	return n, n
}

func (t *typeBy) size() int {
	size, _ := t.layout()
	return size
}

// parts gives the fields with their offsets.
func (t *typeBy) parts() ([]*typeBy, []int) {
	offsets, at := []int{}, 0
	for _, of := range t.rec.types {
		size, align := of.layout()
		if t.rec.word == "union" {
			offsets = append(offsets, 0)
			continue
		}
		at = roundUp(at, align)
		offsets = append(offsets, at)
		at += size
	}
	return t.rec.types, offsets
}

type wrongBy struct{ code, line, col int }

type meantBy struct {
	sort    string // var fun enumer typedef
	t       *typeBy
	core    string
	n       int
	defined bool
	given   bool
	at      *grown
}

type localBy struct {
	t *typeBy
}

type globalBy struct {
	name   string
	t      *typeBy
	pieces []string
}

type checkerBy struct {
	scopes   []map[string]*meantBy
	tags     map[string]*typeBy
	enums    map[string]int
	globals  []*globalBy
	lines    []string
	strings  int
	declared []*meantBy
	// Of the function under way:
	inside   bool
	result   *typeBy
	locals   []*localBy
	labels   map[string]int
	gotos    []*grown
	around   []string
	switches []map[string]int
}

func (c *checkerBy) fail(code int, at *grown) { panic(wrongBy{code, at.Line, at.Col}) }

func (c *checkerBy) failIf(is bool, code int, at *grown) {
	if is {
		c.fail(code, at)
	}
}

// checkBy is the second Check.
func checkBy(text string) (core string, code, line, col int) {
	tree, code, line, col := impl.Parse([]byte(text))
	if code != 0 {
		return "", code, line, col
	}
	defer func() {
		if thrown := recover(); thrown != nil {
			w, ok := thrown.(wrongBy)
			if !ok {
				panic(thrown)
			}
			core, code, line, col = "", w.code, w.line, w.col
		}
	}()
	c := &checkerBy{scopes: []map[string]*meantBy{{}}, tags: map[string]*typeBy{}, enums: map[string]int{}}
	number := plainBy("int")
	for name, t := range map[string]*typeBy{
		"putchar": {k: "fun", of: number, params: []*typeBy{number}}, "getchar": {k: "fun", of: number}, "exit": {k: "fun", of: plainBy("void"), params: []*typeBy{number}},
	} {
		c.scopes[0][name] = &meantBy{sort: "fun", t: t, core: name, defined: true, given: true}
	}
	root := grownOf(tree)
	for _, top := range root.kids {
		c.top(top)
	}
	for _, m := range c.declared {
		c.failIf(!m.defined, 31, m.at)
	}
	main := c.scopes[0]["main"]
	c.failIf(main == nil || main.sort != "fun" || main.t.String() != "fun[]int", 31, root)
	out := ""
	for _, g := range c.globals {
		size, align := g.t.layout()
		out += fmt.Sprintf("(data %s %d %d%s)\n", g.name, size, align, strings.Join(g.pieces, ""))
	}
	return out + strings.Join(c.lines, ""), 0, 0, 0
}

func (c *checkerBy) scope() map[string]*meantBy { return c.scopes[len(c.scopes)-1] }

func (c *checkerBy) newName(g *grown, m *meantBy) {
	c.failIf(c.scope()[g.S] != nil, 21, g)
	c.scope()[g.S] = m
}

func (c *checkerBy) top(g *grown) {
	switch kindNames[g.K] {
	case "structure":
		t := c.recordOf(g)
		c.failIf(len(t.rec.names) > 0, 21, g)
		made := taggedBy{}
		for _, f := range g.kids {
			of := c.typ(f.kids[0], false)
			c.failIf(!of.complete(), 22, f)
			for _, name := range made.names {
				c.failIf(name == f.S, 21, f)
			}
			made.names, made.types = append(made.names, f.S), append(made.types, of)
		}
		t.rec.names, t.rec.types = made.names, made.types
		c.failIf(len(made.names) > impl.MaxFields || t.size() > impl.MaxObject, 32, g)
	case "enumeration":
		c.failIf(c.tags[g.S] != nil || c.enums[g.S] > 0, 21, g)
		c.enums[g.S] = 1
		next := 0
		for _, e := range g.kids {
			c.failIf(c.scope()[e.S] != nil, 21, e)
			if len(e.kids) > 0 {
				next = c.constant(e.kids[0], e)
			}
			next = impl.Word(next)
			c.scope()[e.S] = &meantBy{sort: "enumer", t: plainBy("int"), n: next}
			next++
		}
	case "typedef":
		of := c.typ(g.kids[0], false)
		c.newName(g, &meantBy{sort: "typedef", t: of})
	case "definition":
		c.define(g)
	default:
		c.varOf(g)
	}
}

func (c *checkerBy) recordOf(g *grown) *typeBy {
	word := []string{"", "struct", "union"}[g.M]
	if c.tags[g.S] == nil && c.enums[g.S] == 0 {
		c.tags[g.S] = &typeBy{k: "rec", rec: &taggedBy{word: word, tag: g.S}}
	}
	c.failIf(c.enums[g.S] > 0 || c.tags[g.S].rec.word != word, 22, g)
	return c.tags[g.S]
}

func (c *checkerBy) typ(g *grown, open bool) *typeBy {
	switch kindNames[g.K] {
	case "base":
		return plainBy(baseBy[g.N])
	case "pointer":
		return pointerBy(c.typ(g.kids[0], false))
	case "alias":
		return c.scopes[0][g.S].t
	case "tag":
		if g.M == 3 {
			c.failIf(c.enums[g.S] == 0, 22, g)
			return plainBy("int")
		}
		return c.recordOf(g)
	case "array":
		of := c.typ(g.kids[0], false)
		c.failIf(!of.complete(), 22, g)
		if len(g.kids) == 1 {
			c.failIf(!open, 22, g)
			return &typeBy{k: "arr", of: of}
		}
		n := c.constant(g.kids[1], g)
		c.failIf(n < 1, 27, g.kids[1])
		c.failIf(n*of.size() > impl.MaxObject, 32, g)
		return &typeBy{k: "arr", n: n, of: of}
	}
	t := &typeBy{k: "fun", of: c.typ(g.kids[0], false)}
	for _, p := range g.kids[1:] {
		var of *typeBy
		if p.kids[0].K == kindOf("array") {
			of = pointerBy(c.typ(p.kids[0].kids[0], false))
			c.failIf(!of.toWhole(), 22, p.kids[0])
		} else if of = c.typ(p.kids[0], false); of.k == "arr" {
			of = pointerBy(of.of)
		} else if of.k == "fun" {
			of = pointerBy(of)
		}
		c.failIf(!of.scalar(), 22, p)
		t.params = append(t.params, of)
	}
	c.failIf(t.of.k != "void" && !t.of.scalar(), 22, g)
	c.failIf(len(t.params) > impl.MaxParams, 32, g)
	return t
}

func (c *checkerBy) fun(g *grown, t *typeBy, defines bool) {
	m := c.scopes[0][g.S]
	if m == nil {
		m = &meantBy{sort: "fun", t: t, core: g.S, at: g}
		c.scopes[0][g.S] = m
		c.declared = append(c.declared, m)
	}
	c.failIf(m.sort != "fun" || !m.t.same(t) || defines && m.defined, 21, g)
	m.defined = m.defined || defines
}

func (c *checkerBy) define(g *grown) {
	t := c.typ(g.kids[0], false)
	c.fun(g, t, true)
	c.inside, c.result, c.locals, c.labels, c.gotos = true, t.of, nil, map[string]int{}, nil
	c.scopes = append(c.scopes, map[string]*meantBy{})
	for i, p := range g.kids[0].kids[1:] {
		c.failIf(p.S == "", 22, p)
		c.local(p, t.params[i])
	}
	body := c.block(g.kids[1])
	c.scopes = c.scopes[:1]
	c.inside = false
	for _, jump := range c.gotos {
		c.failIf(c.labels[jump.S] == 0, 29, jump)
	}
	locals := ""
	for i, l := range c.locals {
		size, align := l.t.layout()
		locals += fmt.Sprintf("(local %d %d %s %d) ", size, align, l.t.kind(), takenBy(body, i, l.t.kind()))
	}
	c.lines = append(c.lines, fmt.Sprintf("(function %s %s %s%d %s)\n", g.S, t.of.kind(), locals, len(t.params), body))
}

// wholeBy tells, for a local of each kind, what may stand in front of it.
var wholeBy = map[string]*regexp.Regexp{}

func init() {
	for _, kind := range strings.Fields("i8 u8 i16 u16 w p") {
		forms := `load ` + kind + `|store ` + kind + `|update ` + kind + ` \S+ \S+`
		if kind == "p" {
			forms += `|slide \S+ \S+ \d+`
		}
		wholeBy[kind] = regexp.MustCompile(`\((` + forms + `) $`)
	}
}

// takenBy looks at what stands in front of each (local I).
func takenBy(body string, i int, kind string) int {
	if kind == "m" {
		return 1
	}
	own := fmt.Sprintf("(local %d)", i)
	whole := wholeBy[kind]
	for at := 0; ; {
		next := strings.Index(body[at:], own)
		if next < 0 {
			return 0
		}
		at += next
		if !whole.MatchString(body[max(0, at-40):at]) {
			return 1
		}
		at++
	}
}

func (c *checkerBy) local(g *grown, t *typeBy) *meantBy {
	c.failIf(len(c.locals) >= impl.MaxLocals, 32, g)
	m := &meantBy{sort: "var", t: t, core: fmt.Sprintf("(local %d)", len(c.locals))}
	c.newName(g, m)
	c.locals = append(c.locals, &localBy{t})
	return m
}

func (c *checkerBy) global(g *grown, name string, t *typeBy) *globalBy {
	c.failIf(len(c.globals) >= impl.MaxGlobals, 32, g)
	made := &globalBy{name: name, t: t}
	c.globals = append(c.globals, made)
	return made
}

func (c *checkerBy) varOf(g *grown) string {
	hasInit := len(g.kids) > 1
	t := c.typ(g.kids[0], hasInit)
	if t.k == "fun" {
		c.failIf(c.inside, 22, g)
		c.failIf(hasInit, 28, g)
		c.fun(g, t, false)
		return ""
	}
	c.failIf(!t.complete() && t.k != "arr", 22, g)
	if !c.inside {
		data := c.global(g, g.S, t)
		m := &meantBy{sort: "var", t: t, core: "(global " + g.S + ")"}
		c.newName(g, m)
		if hasInit {
			data.t = c.fitting(g.kids[1], t, false)
			c.piecesOf(data, g.kids[1], data.t, 0)
			m.t = data.t
		}
		return ""
	}
	m := c.local(g, t)
	me := c.locals[len(c.locals)-1]
	steps := []string{"(fresh " + strings.TrimPrefix(m.core, "(local ")}
	if hasInit {
		me.t = c.fitting(g.kids[1], t, true)
		switch {
		case t.k == "rec" && g.kids[1].K != kindOf("list"):
			v := c.given(c.value(g.kids[1]), t, 24, g.kids[1])
			steps = append(steps, fmt.Sprintf("(do (copy %d %s %s))", t.size(), m.core, v))
		case t.scalar():
			c.storesOf(&steps, m.core, g.kids[1], t, 0)
		default:
			steps = append(steps, fmt.Sprintf("(zero %d %s)", me.t.size(), m.core))
			c.storesOf(&steps, m.core, g.kids[1], me.t, 0)
		}
		m.t = me.t
	}
	return "(block " + strings.Join(steps, " ") + ")"
}

// fitting goes through an init for what does not fit, and gives the type with its size.
func (c *checkerBy) fitting(init *grown, t *typeBy, copies bool) *typeBy {
	isList := init.K == kindOf("list")
	text := init.K == kindOf("string") && t.k == "arr" && (t.of.k == "char" || t.of.k == "uchar")
	switch {
	case t.scalar():
		c.failIf(isList, 28, init)
		return t
	case copies && t.k == "rec" && !isList:
		return t
	case text:
		c.failIf(t.n > 0 && len(init.S) > t.n, 28, init)
		if t.n == 0 {
			return &typeBy{k: "arr", n: len(init.S) + 1, of: t.of}
		}
		return t
	case !isList:
		c.fail(28, init)
	}
	for i, kid := range init.kids {
		switch {
		case t.k == "arr" && (t.n == 0 || i < t.n):
			c.fitting(kid, t.of, false)
		case t.k == "rec" && i < len(t.rec.types) && (i == 0 || t.rec.word == "struct"):
			c.fitting(kid, t.rec.types[i], false)
		default:
			c.fail(28, init)
		}
	}
	if t.k == "arr" && t.n == 0 {
		t = &typeBy{k: "arr", n: len(init.kids), of: t.of}
		c.failIf(t.size() > impl.MaxObject, 32, init)
	}
	return t
}

// leaves calls for each scalar and each text of an init that fits.
func (c *checkerBy) leaves(init *grown, t *typeBy, at int, scalar func(*grown, *typeBy, int), text func(string, *typeBy, int)) {
	switch {
	case t.scalar():
		scalar(init, t, at)
	case init.K == kindOf("string"):
		text((init.S + "\x00")[:min(t.n, len(init.S)+1)], t.of, at)
	default:
		for i, kid := range init.kids {
			if t.k == "arr" {
				c.leaves(kid, t.of, at+i*t.of.size(), scalar, text)
			} else {
				types, offsets := t.parts()
				c.leaves(kid, types[i], at+offsets[i], scalar, text)
			}
		}
	}
}

func (c *checkerBy) piecesOf(to *globalBy, init *grown, t *typeBy, at int) {
	c.leaves(init, t, at, func(init *grown, t *typeBy, at int) {
		v := c.scalar(init, init)
		if t.arithmetic() {
			c.failIf(!v.known, 27, init)
			to.pieces = append(to.pieces, fmt.Sprintf(" (at %d %s %d)", at, t.kind(), narrowBy(t, v.n)))
			return
		}
		core := c.given(v, t, 28, init)
		if core == "(null)" {
			v = valueBy{base: "0"}
		}
		c.failIf(v.base == "" || v.far < 0 || v.far > c.sizeOf(v.base), 27, init)
		to.pieces = append(to.pieces, fmt.Sprintf(" (at %d p %s %d)", at, v.base, v.far))
	}, func(text string, _ *typeBy, at int) {
		to.pieces = append(to.pieces, fmt.Sprintf(" (text %d %s)", at, impl.QuoteText(text)))
	})
}

func (c *checkerBy) storesOf(steps *[]string, base string, init *grown, t *typeBy, at int) {
	put := func(t *typeBy, at int, v string) {
		*steps = append(*steps, fmt.Sprintf("(do (store %s %s %s))", t.kind(), offBy(base, at), v))
	}
	c.leaves(init, t, at, func(init *grown, t *typeBy, at int) {
		put(t, at, c.given(c.value(init), t, 24, init))
	}, func(text string, t *typeBy, at int) {
		for i, b := range []byte(text) {
			put(t, at+i, fmt.Sprintf("(num %d)", narrowBy(t, int(b))))
		}
	})
}

func offBy(p string, at int) string {
	if at == 0 {
		return p
	}
	return fmt.Sprintf("(add 1 %s (num %d))", p, at)
}

func narrowBy(t *typeBy, n int) int {
	switch t.k {
	case "char":
		n = int(int8(n))
	case "uchar":
		n = int(uint8(n))
	case "short":
		n = int(int16(n))
	case "ushort":
		n = int(uint16(n))
	}
	return int(uint32(n))
}

func (c *checkerBy) sizeOf(name string) int {
	for _, g := range c.globals {
		if g.name == name {
			return g.t.size()
		}
	}
	return 0
}

// valueBy is what an expr comes to. Of a constant the number is known; of an address that is known, from which global or
// function it is reckoned, and how far.
type valueBy struct {
	t     *typeBy
	place bool
	core  string
	zero  bool
	known bool
	n     int
	base  string
	far   int
}

func (c *checkerBy) value(g *grown) valueBy {
	v := c.expr(g)
	switch {
	case v.place && v.t.k == "arr":
		v.t, v.place = pointerBy(v.t.of), false
	case v.place && v.t.k == "fun":
		v.t, v.place = pointerBy(v.t), false
	case v.place && v.t.scalar():
		v = valueBy{t: v.t, core: "(load " + v.t.kind() + " " + v.core + ")"}
	}
	return v
}

func (c *checkerBy) scalar(g, asks *grown) valueBy {
	v := c.value(g)
	c.failIf(!v.t.scalar(), 24, asks)
	return v
}

func (c *checkerBy) constant(g, asks *grown) int {
	v := c.scalar(g, asks)
	c.failIf(!v.known, 27, g)
	if v.t.k == "uint" {
		return v.n
	}
	return int(int32(v.n))
}

func (c *checkerBy) given(v valueBy, t *typeBy, code int, asks *grown) string {
	switch {
	case t.arithmetic() && v.t.arithmetic():
		if t.kind() == "w" || t.same(v.t) {
			return v.core
		}
		return "(conv " + t.kind() + " " + v.core + ")"
	case t.k == "ptr" && v.zero:
		return "(null)"
	}
	c.failIf(!(t.alike(v.t) || t.k == "rec" && t.same(v.t)), code, asks)
	return v.core
}

func testBy(v valueBy) string {
	if v.t.k == "ptr" {
		return "(pcmp != " + v.core + " (null))"
	}
	return v.core
}

func commonBy(a, b *typeBy) *typeBy {
	if a.k == "uint" || b.k == "uint" {
		return plainBy("uint")
	}
	return plainBy("int")
}

func (c *checkerBy) expr(g *grown) valueBy {
	number := plainBy("int")
	switch kindNames[g.K] {
	case "number":
		t := number
		if g.S == "u" {
			t = plainBy("uint")
		}
		return valueBy{t: t, core: fmt.Sprintf("(num %d)", g.N), zero: g.N == 0, known: true, n: g.N}
	case "string":
		t := &typeBy{k: "arr", n: len(g.S) + 1, of: plainBy("char")}
		data := c.global(g, fmt.Sprintf("$%d", c.strings), t)
		c.strings++
		data.pieces = []string{" (text 0 " + impl.QuoteText(g.S+"\x00") + ")"}
		return valueBy{t: t, place: true, core: "(global " + data.name + ")", base: data.name}
	case "name":
		m := c.look(g)
		c.failIf(m.given, 24, g)
		switch {
		case m.sort == "enumer":
			return valueBy{t: number, core: fmt.Sprintf("(num %d)", m.n), known: true, n: m.n}
		case m.sort == "fun":
			return valueBy{t: m.t, place: true, core: "(func " + m.core + ")", base: m.core}
		case strings.HasPrefix(m.core, "(global"):
			return valueBy{t: m.t, place: true, core: m.core, base: g.S}
		}
		return valueBy{t: m.t, place: true, core: m.core}
	case "index":
		a, b := c.scalar(g.kids[0], g), c.scalar(g.kids[1], g)
		c.failIf(!a.t.toWhole() || !b.t.arithmetic(), 24, g)
		v := movedBy("add", a, b, 1)
		v.t, v.place = a.t.of, true
		return v
	case "call":
		return c.call(g)
	case "member":
		v := c.expr(g.kids[0])
		c.failIf(!v.place, 24, g)
		return c.field(g, v)
	case "arrow":
		v := c.scalar(g.kids[0], g)
		c.failIf(v.t.k != "ptr", 24, g)
		v.t = v.t.of
		return c.field(g, v)
	case "post", "pre":
		v := c.expr(g.kids[0])
		c.failIf(!v.place || !v.t.scalar(), 23, g)
		c.failIf(v.t.k == "ptr" && !v.t.toWhole(), 24, g)
		mode := map[string]string{"post": "old", "pre": "new"}[kindNames[g.K]]
		return changedBy(v, mode, []string{"", "+", "-"}[g.M], "(num 1)")
	case "unary":
		return c.unary(g)
	case "sizeofexpr", "sizeoftype":
		var t *typeBy
		if kindNames[g.K] == "sizeoftype" {
			t = c.typ(g.kids[0], false)
		} else {
			t = c.expr(g.kids[0]).t
		}
		c.failIf(!t.complete(), 22, g)
		return valueBy{t: plainBy("uint"), core: fmt.Sprintf("(num %d)", t.size()), known: true, n: t.size()}
	case "cast":
		return c.cast(g)
	case "binary":
		return c.binary(g)
	case "condition":
		return c.condition(g)
	case "assignment":
		return c.assign(g)
	}
	a := c.value(g.kids[0])
	b := c.scalar(g.kids[1], g)
	return valueBy{t: b.t, core: "(seq " + a.core + " " + b.core + ")"}
}

func (c *checkerBy) look(g *grown) *meantBy {
	for i := len(c.scopes) - 1; i >= 0; i-- {
		if m := c.scopes[i][g.S]; m != nil {
			return m
		}
	}
	c.fail(20, g)
	return nil
}

// movedBy is p moved by w; sign is -1 for backwards.
func movedBy(word string, p, w valueBy, sign int) valueBy {
	v := valueBy{t: p.t}
	if p.base != "" && w.known {
		v.base, v.far = p.base, p.far+sign*p.t.of.size()*int(int32(w.n))
	}
	if word == "plus" {
		p, w = w, p
	}
	v.core = fmt.Sprintf("(%s %d %s %s)", word, v.t.of.size(), p.core, w.core)
	return v
}

func changedBy(v valueBy, mode, op, w string) valueBy {
	if v.t.k == "ptr" {
		return valueBy{t: v.t, core: fmt.Sprintf("(slide %s %s %d %s %s)", mode, op, v.t.of.size(), v.core, w)}
	}
	return valueBy{t: v.t, core: fmt.Sprintf("(update %s %s %s %s %s)", v.t.kind(), mode, op, v.core, w)}
}

func (c *checkerBy) call(g *grown) valueBy {
	var t *typeBy
	core := ""
	if first := g.kids[0]; first.K == kindOf("name") && c.look(first).sort == "fun" {
		m := c.look(first)
		t, core = m.t, "(call "+m.core
	} else {
		v := c.value(first)
		c.failIf(!v.t.to("fun"), 26, g)
		t = v.t.of
		kinds := []string{}
		for _, p := range t.params {
			kinds = append(kinds, p.kind())
		}
		core = "(callp " + t.of.kind() + "(" + strings.Join(kinds, ",") + ") " + v.core
	}
	c.failIf(len(g.kids)-1 != len(t.params), 26, g)
	for i, p := range t.params {
		core += " " + c.given(c.value(g.kids[i+1]), p, 24, g)
	}
	return valueBy{t: t.of, core: core + ")"}
}

func (c *checkerBy) field(g *grown, v valueBy) valueBy {
	c.failIf(v.t.k != "rec" || !v.t.complete(), 24, g)
	types, offsets := v.t.parts()
	for i, name := range v.t.rec.names {
		if name == g.S {
			return valueBy{t: types[i], place: true, core: offBy(v.core, offsets[i]), base: v.base, far: v.far + offsets[i]}
		}
	}
	c.fail(25, g)
	return v
}

func (c *checkerBy) unary(g *grown) valueBy {
	sign := []string{"", "+", "-", "~", "!", "*", "&"}[g.M]
	if sign == "&" {
		v := c.expr(g.kids[0])
		c.failIf(!v.place, 23, g)
		return valueBy{t: pointerBy(v.t), core: v.core, base: v.base, far: v.far}
	}
	v := c.scalar(g.kids[0], g)
	t := plainBy("int")
	switch {
	case sign == "!" && v.t.k == "ptr":
		return valueBy{t: t, core: "(pcmp == " + v.core + " (null))"}
	case sign == "!":
		return valueBy{t: t, core: "(bin == " + v.core + " (num 0))", known: v.known, n: oneIf(v.n == 0)}
	case sign == "*":
		c.failIf(!v.t.toWhole() && !v.t.to("fun"), 24, g)
		return valueBy{t: v.t.of, place: true, core: v.core, base: v.base, far: v.far}
	}
	c.failIf(!v.t.arithmetic(), 24, g)
	v.t, v.zero = commonBy(v.t, t), false
	switch sign {
	case "-":
		v.core, v.n = "(bin - (num 0) "+v.core+")", int(uint32(-v.n))
	case "~":
		v.core, v.n = "(bin ^ "+v.core+" (num 4294967295))", int(^uint32(v.n))
	}
	return v
}

func oneIf(is bool) int {
	if is {
		return 1
	}
	return 0
}

func (c *checkerBy) cast(g *grown) valueBy {
	t := c.typ(g.kids[0], false)
	v := c.value(g.kids[1])
	switch {
	case t.k == "void":
		return valueBy{t: t, core: "(seq " + v.core + " (num 0))"}
	case t.arithmetic() && v.t.arithmetic():
		return valueBy{t: t, core: c.given(v, t, 24, g), known: v.known, n: narrowBy(t, v.n)}
	case t.k == "ptr" && v.zero:
		return valueBy{t: t, core: "(null)"}
	}
	c.failIf(t.k != "ptr" || v.t.k != "ptr" || !t.same(v.t) && (t.to("fun") || v.t.to("fun")), 24, g)
	return valueBy{t: t, core: v.core, base: v.base, far: v.far}
}

var signsBy = strings.Fields("- * / % + - << >> < > <= >= == != & ^ | && ||")

func (c *checkerBy) binary(g *grown) valueBy {
	sign := signsBy[g.M]
	a, b := c.scalar(g.kids[0], g), c.scalar(g.kids[1], g)
	number := plainBy("int")
	both := a.t.arithmetic() && b.t.arithmetic()
	switch {
	case sign == "&&" || sign == "||":
		word := map[string]string{"&&": "and", "||": "or"}[sign]
		n := oneIf(a.n != 0 && b.n != 0)
		if sign == "||" {
			n = oneIf(a.n != 0 || b.n != 0)
		}
		return valueBy{t: number, core: "(" + word + " " + testBy(a) + " " + testBy(b) + ")", known: both && a.known && b.known, n: n}
	case both:
		op, t := operatorBy(sign, a.t, b.t)
		v := valueBy{t: t, core: "(bin " + op + " " + a.core + " " + b.core + ")"}
		if a.known && b.known {
			v.n, v.known = reckonBy(op, a.n, b.n)
		}
		return v
	case sign == "+" && a.t.toWhole() && b.t.arithmetic():
		return movedBy("add", a, b, 1)
	case sign == "+" && b.t.toWhole() && a.t.arithmetic():
		return movedBy("plus", b, a, 1)
	case sign == "-" && a.t.toWhole() && b.t.arithmetic():
		return movedBy("sub", a, b, -1)
	case sign == "-" && a.t.toWhole() && a.t.same(b.t):
		return valueBy{t: number, core: fmt.Sprintf("(dist %d %s %s)", a.t.of.size(), a.core, b.core)}
	case strings.Contains("< > <= >=", sign) && a.t.k == "ptr" && a.t.same(b.t) && !a.t.to("fun"):
		return valueBy{t: number, core: "(pcmp " + sign + " " + a.core + " " + b.core + ")"}
	case sign == "==" || sign == "!=":
		switch {
		case a.t.k == "ptr" && b.zero:
			b.core = "(null)"
		case b.t.k == "ptr" && a.zero:
			a.core = "(null)"
		case !a.t.alike(b.t):
			c.fail(24, g)
		}
		return valueBy{t: number, core: "(pcmp " + sign + " " + a.core + " " + b.core + ")"}
	}
	c.fail(24, g)
	return a
}

func operatorBy(sign string, a, b *typeBy) (string, *typeBy) {
	t := commonBy(a, b)
	if sign == "<<" || sign == ">>" {
		t = commonBy(a, a)
	}
	if t.k == "uint" && strings.Contains(" / % >> < > <= >= ", " "+sign+" ") {
		sign = "u" + sign
	}
	if strings.ContainsAny(sign, "<>=!") && !strings.Contains(sign, "<<") && !strings.Contains(sign, ">>") {
		t = plainBy("int")
	}
	return sign, t
}

// reckonBy works on 32 bits of Go's own.
func reckonBy(op string, x, y int) (int, bool) {
	a, b := uint32(x), uint32(y)
	p, q := int32(a), int32(b)
	words := map[string]uint32{"+": a + b, "-": a - b, "*": a * b, "&": a & b, "|": a | b, "^": a ^ b}
	if n, ok := words[op]; ok {
		return int(n), true
	}
	switch op {
	case "/", "%", "u/", "u%":
		switch {
		case b == 0:
			return 0, false
		case op == "u/":
			return int(a / b), true
		case op == "u%":
			return int(a % b), true
		case op == "/":
			return int(uint32(p / q)), true
		}
		return int(uint32(p % q)), true
	case "<<":
		return int(a << b), b < 32
	case ">>":
		return int(uint32(p >> b)), b < 32
	case "u>>":
		return int(a >> b), b < 32
	}
	return oneIf(map[string]bool{"==": a == b, "!=": a != b, "<": p < q, "<=": p <= q, ">": p > q, ">=": p >= q, "u<": a < b, "u<=": a <= b, "u>": a > b, "u>=": a >= b}[op]), true
}

func (c *checkerBy) condition(g *grown) valueBy {
	test := c.scalar(g.kids[0], g)
	a, b := c.value(g.kids[1]), c.value(g.kids[2])
	v := valueBy{t: a.t}
	switch {
	case a.t.arithmetic() && b.t.arithmetic():
		v.t = commonBy(a.t, b.t)
		v.known, v.n = test.t.arithmetic() && test.known && a.known && b.known, b.n
		if test.n != 0 {
			v.n = a.n
		}
	case a.t.k == "ptr" && b.zero:
		b.core = "(null)"
	case b.t.k == "ptr" && a.zero:
		a.core, v.t = "(null)", b.t
	case a.t.k == "void" && b.t.k == "void":
	default:
		c.failIf(!a.t.alike(b.t), 24, g)
		if a.t.to("void") {
			v.t = b.t
		}
	}
	v.core = "(if " + testBy(test) + " " + a.core + " " + b.core + ")"
	return v
}

func (c *checkerBy) assign(g *grown) valueBy {
	a, b := c.expr(g.kids[0]), c.value(g.kids[1])
	if g.M == 0 {
		c.failIf(!a.place || a.t.k == "arr" || !a.t.complete(), 23, g)
		v := c.given(b, a.t, 24, g)
		if a.t.k == "rec" {
			return valueBy{t: plainBy("void"), core: fmt.Sprintf("(copy %d %s %s)", a.t.size(), a.core, v)}
		}
		return valueBy{t: a.t, core: fmt.Sprintf("(store %s %s %s)", a.t.kind(), a.core, v)}
	}
	c.failIf(!a.place || !a.t.scalar(), 23, g)
	sign := signsBy[g.M]
	if a.t.k == "ptr" {
		c.failIf(!a.t.toWhole() || !b.t.arithmetic() || sign != "+" && sign != "-", 24, g)
		return changedBy(a, "new", sign, b.core)
	}
	c.failIf(!b.t.arithmetic(), 24, g)
	op, _ := operatorBy(sign, a.t, b.t)
	return changedBy(a, "new", op, b.core)
}

func (c *checkerBy) block(g *grown) string {
	out := "(block"
	for _, kid := range g.kids {
		out += " " + c.stmt(kid)
	}
	return out + ")"
}

func (c *checkerBy) scoped(do func() string) string {
	c.scopes = append(c.scopes, map[string]*meantBy{})
	out := do()
	c.scopes = c.scopes[:len(c.scopes)-1]
	return out
}

// inner comes to a stmt that has one more thing around it.
func (c *checkerBy) inner(around string, g *grown) string {
	c.around = append(c.around, around)
	out := c.stmt(g)
	c.around = c.around[:len(c.around)-1]
	return out
}

func (c *checkerBy) stmt(g *grown) string {
	within := strings.Join(c.around, " ")
	switch kindNames[g.K] {
	case "block":
		return c.scoped(func() string { return c.block(g) })
	case "var":
		return c.varOf(g)
	case "expression":
		return "(do " + c.value(g.kids[0]).core + ")"
	case "empty":
		return "(block)"
	case "if":
		out := "(when " + testBy(c.scalar(g.kids[0], g))
		for _, kid := range g.kids[1:] {
			out += " " + c.stmt(kid)
		}
		return out + ")"
	case "while":
		test := testBy(c.scalar(g.kids[0], g))
		return "(while " + test + " " + c.inner("loop", g.kids[1]) + ")"
	case "do":
		body := c.inner("loop", g.kids[0])
		return "(repeat " + body + " " + testBy(c.scalar(g.kids[1], g)) + ")"
	case "for":
		return c.scoped(func() string {
			out := "(for " + c.stmt(g.kids[0])
			if g.kids[1].K == kindOf("empty") {
				out += " (num 1) "
			} else {
				out += " " + testBy(c.scalar(g.kids[1].kids[0], g)) + " "
			}
			out += c.stmt(g.kids[2]) + " "
			return out + c.inner("loop", g.kids[3]) + ")"
		})
	case "switch":
		v := c.scalar(g.kids[0], g)
		c.switches = append(c.switches, map[string]int{})
		body := c.inner("switch", g.kids[1])
		c.switches = c.switches[:len(c.switches)-1]
		c.failIf(!v.t.arithmetic(), 24, g)
		return "(switch " + v.core + " " + body + ")"
	case "case", "default":
		out := "default"
		var v valueBy
		if len(g.kids) == 2 {
			v = c.scalar(g.kids[0], g)
			c.failIf(len(c.switches) == 0, 29, g)
			c.failIf(!v.known, 27, g.kids[0])
			out = fmt.Sprintf("case %d", v.n)
		}
		c.failIf(len(c.switches) == 0, 29, g)
		cases := c.switches[len(c.switches)-1]
		c.failIf(cases[out] > 0, 29, g)
		cases[out]++
		return "(" + out + " " + c.stmt(g.kids[len(g.kids)-1]) + ")"
	case "label":
		inner := c.stmt(g.kids[0])
		c.failIf(c.labels[g.S] > 0, 29, g)
		c.labels[g.S]++
		return "(label " + g.S + " " + inner + ")"
	case "goto":
		c.gotos = append(c.gotos, g)
		return "(goto " + g.S + ")"
	case "break":
		c.failIf(within == "", 29, g)
		return "(break)"
	case "continue":
		c.failIf(!strings.Contains(within, "loop"), 29, g)
		return "(continue)"
	}
	if len(g.kids) == 0 {
		c.failIf(c.result.k != "void", 30, g)
		return "(return)"
	}
	v := c.value(g.kids[0])
	c.failIf(c.result.k == "void", 30, g)
	return "(return " + c.given(v, c.result, 24, g) + ")"
}
