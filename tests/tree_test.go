package tests

import (
	"slices"
	"strconv"
	"strings"
	"testing"

	"loop.example/s01681/impl"
)

// kindNames are the names of the document's table, by K.
var kindNames = []string{
	"", "base", "pointer", "array", "function", "tag", "alias", "param", "field", "enumer", "structure", "enumeration",
	"typedef", "var", "definition", "unit", "list", "block", "", "expression", "empty", "if", "while", "do", "for", "switch",
	"case", "default", "label", "goto", "break", "continue", "return", "number", "string", "name", "index", "call", "member",
	"arrow", "post", "pre", "unary", "sizeofexpr", "sizeoftype", "cast", "binary", "condition", "assignment", "comma",
}

func kindOf(name string) int { return slices.Index(kindNames, name) }

// grown is a node that has its kids themselves.
type grown struct {
	impl.Node
	kids []*grown
}

func grow(kind string, kids ...*grown) *grown {
	return &grown{Node: impl.Node{K: kindOf(kind)}, kids: kids}
}

func (g *grown) m(m int) *grown {
	g.M = m
	return g
}

func (g *grown) n(n int) *grown {
	g.N = n
	return g
}

func (g *grown) s(s string) *grown {
	g.S = s
	return g
}

func (g *grown) place(line, col int) *grown {
	g.Line, g.Col = line, col
	return g
}

func (g *grown) tree() impl.Tree {
	out := impl.Tree{}
	var add func(g *grown) int
	add = func(g *grown) int {
		n := g.Node
		n.Kids = nil
		for _, kid := range g.kids {
			n.Kids = append(n.Kids, add(kid))
		}
		out.Nodes = append(out.Nodes, n)
		return len(out.Nodes) - 1
	}
	add(g)
	return out
}

// grownOf is for trees whose kids are in front of their nodes.
func grownOf(tree impl.Tree) *grown {
	made := []*grown{}
	for _, n := range tree.Nodes {
		g := &grown{Node: n}
		g.Kids = nil
		for _, kid := range n.Kids {
			g.kids = append(g.kids, made[kid])
		}
		made = append(made, g)
	}
	return made[len(made)-1]
}

// clone gives the parts of a declaration of several names memory of their own.
func (g *grown) clone() *grown { return grownOf(g.tree()) }

// show writes a node as its kind, .M, =N, :S, then its place as column or line:column, and its kids; what is 0 or empty
// is left out.
func (g *grown) show(places bool) string {
	out := kindNames[g.K]
	if g.M != 0 {
		out += "." + strconv.Itoa(g.M)
	}
	if g.N != 0 {
		out += "=" + strconv.Itoa(g.N)
	}
	if g.S != "" {
		out += ":" + g.S
	}
	if places {
		out += "@"
		if g.Line != 1 {
			out += strconv.Itoa(g.Line) + ":"
		}
		out += strconv.Itoa(g.Col)
	}
	kids := []string{}
	for _, kid := range g.kids {
		kids = append(kids, kid.show(places))
	}
	if len(kids) > 0 {
		out += "(" + strings.Join(kids, " ") + ")"
	}
	return out
}

// roomyTree has the same nodes, with room behind each of its lists.
func roomyTree(tree impl.Tree) impl.Tree {
	out := impl.Tree{Nodes: roomy(tree.Nodes)}
	for i, n := range out.Nodes {
		out.Nodes[i].Kids = roomy(n.Kids)
	}
	return out
}

func cloneTree(tree impl.Tree) impl.Tree {
	out := impl.Tree{Nodes: slices.Clone(tree.Nodes)}
	for i, n := range out.Nodes {
		out.Nodes[i].Kids = slices.Clone(n.Kids)
	}
	return out
}

// equalTrees asks for Line and Col too.
func equalTrees(a, b impl.Tree) bool {
	return slices.EqualFunc(a.Nodes, b.Nodes, equalNodes)
}

func equalNodes(a, b impl.Node) bool {
	return sameNodes(a, b) && a.Line == b.Line && a.Col == b.Col
}

func sameNodes(a, b impl.Node) bool {
	return a.K == b.K && a.M == b.M && a.N == b.N && a.S == b.S && slices.Equal(a.Kids, b.Kids)
}

// equalRoom asks for the room behind the lists of roomy trees as well.
func equalRoom(a, b impl.Tree) bool {
	return slices.EqualFunc(a.Nodes[:cap(a.Nodes)], b.Nodes[:cap(b.Nodes)], func(x, y impl.Node) bool {
		return equalNodes(x, y) && slices.Equal(x.Kids[:cap(x.Kids)], y.Kids[:cap(y.Kids)])
	})
}

// treeOk asks TreeOk, and that it leaves its argument as it was.
func treeOk(t *testing.T, tree impl.Tree) bool {
	t.Helper()
	given, kept := roomyTree(tree), roomyTree(tree)
	ok := impl.TreeOk(given)
	if !equalRoom(given, kept) {
		t.Errorf("TreeOk wrote into its tree")
	}
	return ok
}

// parse hands a text in with room behind it, spoils it behind the call, and asks for what all answers have in common.
func parse(t *testing.T, text string) (impl.Tree, int, int, int) {
	t.Helper()
	given := roomy([]byte(text))
	room := slices.Clone(given[:cap(given)])
	tree, code, line, col := impl.Parse(given)
	if !slices.Equal(given[:cap(given)], room) {
		t.Errorf("%.300q: Parse wrote into its text", text)
	}
	for i := range given {
		given[i] = 'q'
	}
	switch {
	case code == 0 && (line != 0 || col != 0 || !treeOk(t, tree)):
		t.Errorf("%.300q: %v, %d, %d", text, tree, line, col)
	case code != 0 && (code < 0 || code > 11 || len(tree.Nodes) != 0 || line < 1 || col < 1):
		t.Errorf("%.300q: %v, %d, %d, %d", text, tree, code, line, col)
	}
	return tree, code, line, col
}

// parsed is the tree of a text that has no fault; it is held against the printer.
func parsed(t *testing.T, text string) *grown {
	t.Helper()
	tree, code, line, col := parse(t, text)
	if code != 0 {
		t.Errorf("%.300q: %d, %d, %d", text, code, line, col)
		return grow("unit")
	}
	checkPrint(t, tree)
	return grownOf(tree)
}

// checkPrint asks for promise 7 of a valid tree, and for the text that the document says.
func checkPrint(t *testing.T, tree impl.Tree) {
	t.Helper()
	given, kept := roomyTree(tree), roomyTree(tree)
	text, ok := impl.Print(given)
	if !equalRoom(given, kept) {
		t.Errorf("Print wrote into its tree")
	}
	if want := printBy(grownOf(tree)); !ok || string(text) != want {
		t.Errorf("Print gives %.300q, %v, not %.300q", text, ok, want)
		return
	}
	back, code, _, _ := parse(t, string(text))
	if len(text) > impl.MaxSource {
		if code != 1 {
			t.Errorf("a text of %d bytes: %d", len(text), code)
		}
		return
	}
	if tokens, _, _, _ := impl.Lex(text); len(tokens) == 0 {
		if code != 9 {
			t.Errorf("a text of too many tokens: %d", code)
		}
		return
	}
	if code != 0 || !impl.SameTree(back, tree) || !impl.SameTree(tree, back) {
		t.Errorf("%.300q is read as another tree: %d", text, code)
		return
	}
	if again, ok := impl.Print(back); !ok || string(again) != string(text) {
		t.Errorf("%.300q is written again as %.300q, %v", text, again, ok)
	}
}

// misfits asks for code 10 at a place of line 1.
func misfits(t *testing.T, text string, col int) {
	t.Helper()
	if _, code, line, at := parse(t, text); code != 10 || line != 1 || at != col {
		t.Errorf("%.300q: %d at %d, %d, not 10 at 1, %d", text, code, line, at, col)
	}
}

// stops asks for code 10 at the token behind a | in the text, which becomes a blank; the text has no other |.
func stops(t *testing.T, text string) {
	t.Helper()
	before, behind, marked := strings.Cut(text, "|")
	if !marked || strings.Contains(behind, "|") {
		t.Fatalf("%q has not one mark", text)
	}
	misfits(t, before+" "+strings.TrimLeft(behind, " "), len(before)+2)
}

// shows asks for the tree of a source, with its places.
func shows(t *testing.T, text, want string) {
	t.Helper()
	if got := parsed(t, text).show(true); got != want {
		t.Errorf("%.300q:\n got %s\nwant %s", text, got, want)
	}
}

// showsTop asks for the tops of a source, without places.
func showsTop(t *testing.T, text, want string) {
	t.Helper()
	if got := parsed(t, text).show(false); got != "unit("+want+")" {
		t.Errorf("%.300q:\n got %s\nwant unit(%s)", text, got, want)
	}
}

// showsStmt asks for the stmts of a function's body, without places.
func showsStmt(t *testing.T, text, want string) {
	t.Helper()
	showsTop(t, "int f(){"+text+"}", "definition:f(function(base=6) block("+want+"))")
}

// showsExpr asks for an expr, wherever it stands.
func showsExpr(t *testing.T, text, want string) {
	t.Helper()
	showsStmt(t, text+";", "expression("+want+")")
	showsStmt(t, "x[("+text+")];", "expression(index(name:x "+want+"))")
	showsStmt(t, "return "+text+";", "return("+want+")")
}
