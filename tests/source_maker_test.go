package tests

import (
	"fmt"
	"math/rand"
	"slices"
	"testing"

	"loop.example/s01681/impl"
)

// sourceWriter writes a tree by the grammar, with all its freedoms, and sets the place of each node as it goes.
type sourceWriter struct {
	r         *rand.Rand
	text      []byte
	line, col int
}

func (w *sourceWriter) oneIn(n int) bool { return w.r.Intn(n) == 0 }

func (w *sourceWriter) raw(text string) {
	for _, b := range []byte(text) {
		w.text = append(w.text, b)
		w.col++
		if b == '\n' {
			w.line, w.col = w.line+1, 1
		}
	}
}

// put leaves the place right ahead of the next token.
func (w *sourceWriter) put(token string) {
	w.raw(token)
	blanks := []string{"/**/", " ", " ", " ", "\n", "\t", "  ", " /* x */", "\n//y\n"}
	if token == "/" {
		blanks = blanks[1:]
	}
	w.raw(blanks[w.r.Intn(len(blanks))])
}

// mark writes the token whose place a node has.
func (w *sourceWriter) mark(g *grown, token string) {
	g.place(w.line, w.col)
	w.put(token)
}

func sourceOf(r *rand.Rand, g *grown) string {
	w := &sourceWriter{r: r, line: 1, col: 1}
	if w.oneIn(2) {
		w.raw("\n ")
	}
	g.place(1, 1)
	w.items(g.kids)
	return string(w.text)
}

// items writes tops, fields or what stands in a block; declarations of the same specs may become one.
func (w *sourceWriter) items(kids []*grown) {
	for i := 0; i < len(kids); {
		switch kindNames[kids[i].K] {
		case "var", "field":
			i += w.declarations(kids[i:])
			continue
		case "typedef":
			w.put("typedef")
			w.specs(kids[i : i+1])
			w.declarator(kids[i])
			w.put(";")
		case "definition":
			w.specs(kids[i : i+1])
			w.declarator(kids[i])
			w.stmt(kids[i].kids[1])
		case "structure":
			w.mark(kids[i], tagsBy[kids[i].M])
			w.put(kids[i].S)
			w.put("{")
			w.items(kids[i].kids)
			w.put("}")
			w.put(";")
		case "enumeration":
			w.mark(kids[i], "enum")
			w.put(kids[i].S)
			w.braced(kids[i].kids, w.enumer)
			w.put(";")
		default:
			w.stmt(kids[i])
		}
		i++
	}
}

func (w *sourceWriter) declarations(kids []*grown) int {
	count := 1
	for count < len(kids) && kids[count].K == kids[0].K && sameNodes(specsOf(kids[count]).Node, specsOf(kids[0]).Node) && !w.oneIn(4) {
		count++
	}
	w.specs(kids[:count])
	for i, g := range kids[:count] {
		if i > 0 {
			w.put(",")
		}
		w.declarator(g)
		w.value(g.kids[1:])
	}
	w.put(";")
	return count
}

func (w *sourceWriter) value(kids []*grown) {
	for _, kid := range kids {
		w.put("=")
		w.init(kid)
	}
}

func (w *sourceWriter) init(g *grown) {
	if g.K != kindOf("list") {
		w.expr(g, levelAssign)
		return
	}
	g.place(w.line, w.col)
	w.braced(g.kids, w.init)
}

func (w *sourceWriter) enumer(g *grown) {
	w.mark(g, g.S)
	for _, kid := range g.kids {
		w.put("=")
		w.expr(kid, levelCond)
	}
}

func (w *sourceWriter) braced(kids []*grown, write func(*grown)) {
	w.put("{")
	w.listed(kids, write)
	if w.oneIn(3) {
		w.put(",")
	}
	w.put("}")
}

func (w *sourceWriter) listed(kids []*grown, write func(*grown)) {
	for i, kid := range kids {
		if i > 0 {
			w.put(",")
		}
		write(kid)
	}
}

// typesOf are the types of what is declared, from its name outwards, without the specs.
func typesOf(declared *grown) []*grown {
	out := []*grown{}
	for g := declared.kids[0]; len(g.kids) > 0; g = g.kids[0] {
		out = append(out, g)
	}
	return out
}

func specsOf(declared *grown) *grown {
	g := declared.kids[0]
	for len(g.kids) > 0 {
		g = g.kids[0]
	}
	return g
}

// specs writes once what all of these have, and gives each its place.
func (w *sourceWriter) specs(declared []*grown) {
	for _, one := range declared {
		specsOf(one).place(w.line, w.col)
	}
	switch g := specsOf(declared[0]); kindNames[g.K] {
	case "base":
		spellings := [][][]string{
			nil, {{"void"}}, {{"char"}, {"signed", "char"}}, {{"unsigned", "char"}},
			{{"short"}, {"short", "int"}, {"signed", "short"}, {"signed", "short", "int"}}, {{"unsigned", "short"}, {"unsigned", "short", "int"}},
			{{"int"}, {"signed"}, {"signed", "int"}}, {{"unsigned"}, {"unsigned", "int"}},
		}[g.N]
		for _, word := range spellings[w.r.Intn(len(spellings))] {
			w.put(word)
		}
	case "tag":
		w.put(tagsBy[g.M])
		w.put(g.S)
	default:
		w.put(g.S)
	}
}

// around is how types are laid around a name: stars in front, maybe brackets within, and what stands behind.
type around struct {
	stars    []*grown
	inner    *around
	suffixes []*grown
}

// layOut puts in brackets that are not needed when it is free to.
func (w *sourceWriter) layOut(types []*grown, named, free bool) *around {
	isPointer := func(g *grown) bool { return g.K == kindOf("pointer") }
	stars := 0
	for stars < len(types) && isPointer(types[len(types)-1-stars]) && !(free && w.oneIn(6)) {
		stars++
	}
	rest := types[:len(types)-stars]
	suffixes := 0
	for suffixes < len(rest) && !isPointer(rest[len(rest)-1-suffixes]) && !(free && w.oneIn(6)) {
		suffixes++
	}
	a := &around{stars: slices.Clone(types[len(types)-stars:]), suffixes: rest[len(rest)-suffixes:]}
	slices.Reverse(a.stars)
	if inner := rest[:len(rest)-suffixes]; len(inner) > 0 || free && w.oneIn(6) {
		a.inner = w.layOut(inner, named, free)
		if !named && !a.inner.standsNameless() {
			return w.layOut(types, named, false)
		}
	}
	return a
}

// standsNameless says whether what stands in inner brackets begins with a * or a (.
func (a *around) standsNameless() bool {
	return len(a.stars) > 0 || a.inner != nil || len(a.suffixes) > 0 && a.suffixes[0].K == kindOf("function")
}

// declarator gives a node the place of its name, if that is written.
func (w *sourceWriter) declarator(g *grown) {
	w.lay(w.layOut(typesOf(g), g.S != "", true), g)
}

func (w *sourceWriter) lay(a *around, g *grown) {
	for _, star := range a.stars {
		w.mark(star, "*")
	}
	switch {
	case a.inner != nil:
		w.put("(")
		w.lay(a.inner, g)
		w.put(")")
	case g.S != "":
		w.mark(g, g.S)
	}
	for _, suffix := range a.suffixes {
		w.suffix(suffix)
	}
}

func (w *sourceWriter) suffix(g *grown) {
	if g.K == kindOf("array") {
		w.mark(g, "[")
		for _, size := range g.kids[1:] {
			w.expr(size, levelCond)
		}
		w.put("]")
		return
	}
	w.mark(g, "(")
	if len(g.kids) == 1 && w.oneIn(2) {
		w.put("void")
	}
	w.listed(g.kids[1:], func(param *grown) {
		param.place(w.line, w.col)
		w.specs([]*grown{param})
		w.declarator(param)
	})
	w.put(")")
}

func (w *sourceWriter) typeName(g *grown) {
	w.put("(")
	holder := grow("cast", g)
	w.specs([]*grown{holder})
	w.declarator(holder)
	w.put(")")
}

// test writes an expr in brackets.
func (w *sourceWriter) test(g *grown) {
	w.put("(")
	w.expr(g, levelComma)
	w.put(")")
}

// upTo writes an expression or an empty.
func (w *sourceWriter) upTo(g *grown, end string) {
	g.place(w.line, w.col)
	for _, kid := range g.kids {
		w.expr(kid, levelComma)
	}
	w.put(end)
}

func (w *sourceWriter) stmt(g *grown) {
	kids := g.kids
	switch kind := kindNames[g.K]; kind {
	case "block":
		w.mark(g, "{")
		w.items(kids)
		w.put("}")
	case "expression", "empty":
		w.upTo(g, ";")
	case "if", "while", "switch":
		w.mark(g, kind)
		w.test(kids[0])
		w.stmt(kids[1])
		for _, other := range kids[2:] {
			w.put("else")
			w.stmt(other)
		}
	case "do":
		w.mark(g, kind)
		w.stmt(kids[0])
		w.put("while")
		w.test(kids[1])
		w.put(";")
	case "for":
		w.mark(g, kind)
		w.put("(")
		if kids[0].K == kindOf("var") {
			w.declarations(kids[:1])
		} else {
			w.upTo(kids[0], ";")
		}
		w.upTo(kids[1], ";")
		w.upTo(kids[2], ")")
		w.stmt(kids[3])
	case "case", "default", "label":
		w.marked(g)
	default:
		w.mark(g, kind)
		if g.S != "" {
			w.put(g.S)
		}
		for _, value := range kids {
			w.expr(value, levelComma)
		}
		w.put(";")
	}
}

func (w *sourceWriter) marked(g *grown) {
	word := kindNames[g.K]
	if g.S != "" {
		word = g.S
	}
	w.mark(g, word)
	if word == "case" {
		w.expr(g.kids[0], levelCond)
	}
	w.put(":")
	w.stmt(g.kids[len(g.kids)-1])
}

// The levels of the grammar; those of binary operators lie between levelCond and levelCast.
const (
	levelComma   = 0
	levelAssign  = 1
	levelCond    = 2
	levelCast    = 13
	levelUnary   = 14
	levelPostfix = 15
	levelPrimary = 16
)

func levelOf(g *grown) int {
	switch kindNames[g.K] {
	case "comma":
		return levelComma
	case "assignment":
		return levelAssign
	case "condition":
		return levelCond
	case "binary":
		return []int{0, 12, 12, 12, 11, 11, 10, 10, 9, 9, 9, 9, 8, 8, 7, 6, 5, 4, 3}[g.M]
	case "cast":
		return levelCast
	case "pre", "unary", "sizeofexpr", "sizeoftype":
		return levelUnary
	case "index", "call", "member", "arrow", "post":
		return levelPostfix
	}
	return levelPrimary
}

// expr writes brackets where the grammar asks for them, and sometimes where it does not.
func (w *sourceWriter) expr(g *grown, level int) {
	own := levelOf(g)
	if own < level || w.oneIn(12) {
		w.put("(")
		w.expr(g, levelComma)
		w.put(")")
		return
	}
	kids := g.kids
	switch kindNames[g.K] {
	case "comma":
		w.infix(g, levelComma, ",", levelAssign)
	case "assignment":
		w.infix(g, levelCond, assignsBy(g.M), levelAssign)
	case "condition":
		w.infix(g, levelCond+1, "?", levelComma)
		w.put(":")
		w.expr(kids[2], levelCond)
	case "binary":
		w.infix(g, own, binariesBy[g.M], own+1)
	case "cast":
		g.place(w.line, w.col)
		w.typeName(kids[0])
		w.expr(kids[1], levelCast)
	case "pre":
		w.mark(g, stepsBy[g.M])
		w.expr(kids[0], levelUnary)
	case "unary":
		w.mark(g, unariesBy[g.M])
		w.expr(kids[0], levelCast)
	case "sizeofexpr":
		w.mark(g, "sizeof")
		w.expr(kids[0], levelUnary)
	case "sizeoftype":
		w.mark(g, "sizeof")
		w.typeName(kids[0])
	default:
		w.tightExpr(g)
	}
}

func (w *sourceWriter) infix(g *grown, first int, sign string, second int) {
	w.expr(g.kids[0], first)
	w.mark(g, sign)
	w.expr(g.kids[1], second)
}

func (w *sourceWriter) tightExpr(g *grown) {
	if levelOf(g) == levelPostfix {
		w.expr(g.kids[0], levelPostfix)
	}
	switch kindNames[g.K] {
	case "index":
		w.mark(g, "[")
		w.expr(g.kids[1], levelComma)
		w.put("]")
	case "call":
		w.mark(g, "(")
		w.listed(g.kids[1:], func(argument *grown) { w.expr(argument, levelAssign) })
		w.put(")")
	case "member":
		w.mark(g, ".")
		w.put(g.S)
	case "arrow":
		w.mark(g, "->")
		w.put(g.S)
	case "post":
		w.mark(g, stepsBy[g.M])
	case "number":
		w.mark(g, w.number(g))
	case "string":
		w.mark(g, impl.QuoteText(g.S))
	default:
		w.mark(g, g.S)
	}
}

func (w *sourceWriter) number(g *grown) string {
	if g.S == "c" {
		return impl.TokenText(integer(g.N, "c"))
	}
	end := g.S
	if end == "u" && (w.oneIn(2) || g.N > 2147483647 && w.oneIn(2)) {
		end = "U"
	}
	if g.N > 2147483647 && w.oneIn(3) {
		end = ""
	}
	return fmt.Sprintf([]string{"%d", "0x%x", "0X%X", "0%o"}[w.r.Intn(4)], g.N) + end
}

// checkSource asks that a made-up tree is read from a source of it, places and all, and holds it against the printer.
func checkSource(t *testing.T, r *rand.Rand, g *grown) string {
	t.Helper()
	text := sourceOf(r, g)
	if len(text) > impl.MaxSource {
		return text
	}
	got, code, line, col := parse(t, text)
	want := g.tree()
	if code == 9 {
		return text
	}
	if code != 0 || !equalTrees(got, want) {
		t.Errorf("%q: %d, %d, %d", text, code, line, col)
		if code == 0 {
			t.Errorf("\n got %s\nwant %s", grownOf(got).show(true), g.show(true))
		}
		t.FailNow()
	}
	if !impl.SameTree(got, want) {
		t.Errorf("%q: not the same tree", text)
	}
	checkPrint(t, want)
	return text
}

func TestManyMadeUpSources(t *testing.T) {
	r := rand.New(rand.NewSource(8))
	seen := make([]int, len(kindNames))
	for i := range 4000 {
		g := madeUp(r, 1+i%6, i%5)
		checkSource(t, r, g)
		for _, n := range g.tree().Nodes {
			seen[n.K]++
		}
	}
	for kind, name := range kindNames {
		if name != "" && seen[kind] < 50 {
			t.Errorf("%s has come %d times: the trees are too tame", name, seen[kind])
		}
	}
}

func TestGreatMadeUpSources(t *testing.T) {
	r := rand.New(rand.NewSource(9))
	for range 100 {
		checkSource(t, r, madeUp(r, 12, 6))
	}
}
