package tests

import (
	"math/rand"
	"slices"
	"strings"
	"testing"

	"loop.example/s01681/impl"
)

// checkValid asks TreeOk and Print of a tree, and gives what they should say.
func checkValid(t *testing.T, tree impl.Tree) bool {
	t.Helper()
	want := validBy(tree)
	checkValidity(t, tree, want)
	return want
}

func checkValidity(t *testing.T, tree impl.Tree, want bool) {
	t.Helper()
	if treeOk(t, tree) != want {
		t.Errorf("TreeOk is not %v of %+.600v", want, tree)
	}
	text, ok := impl.Print(tree)
	if ok != want || !ok && len(text) != 0 {
		t.Errorf("Print gives %.300q, %v of %+.600v", text, ok, tree)
	}
	if want && ok {
		checkPrint(t, tree)
	}
}

// examples have each kind with and without the kids that may be missing; T is an alias in them.
func examples(t *testing.T) []*grown {
	out := []*grown{}
	for _, text := range []string{
		"", "int a;", "unsigned char *a, b[3], c[], d(void), e(int, char x);", "struct S a; union U b; enum E c; T d;", "int a = 1, b = {1, {x}};",
		"struct S {int a; T *b;};", "union T {int a[2];};", "enum E {A};", "enum T {A, B = 2};", "typedef int U; U a;", "typedef int (*U)(int U);", "int f(void){}", "T f(int x){;}",
		"int f(){int a; {} a; ; T b = 1; }", "int f(){if (a) ; if (a) ; else ; if (a) b; else if (c) ; else ; }", "int f(){while (a) ; switch (a) ; do ; while (a); }",
		"int f(){for (;;) ; for (a; b; c) ; for (int i; ; ) ; }", "int f(){case 1: default: l: ; goto l; break; continue; return; return a; }",
		"int a = 1u + 'c' - \"s\" * b;", "int a = b[c](d)(d, e)()++--.T->x;", "int a = ++b + --c - +d - -e * ~f / !g % *h & &i;",
		"int a = sizeof b + sizeof(int) + (T)c + (int (*)(void))d;", "int a = b ? c : d, e = f = g += h |= i, j = (k, l);",
	} {
		out = append(out, parsed(t, "typedef int T; "+text))
	}
	return out
}

func TestExamplesHaveEachKind(t *testing.T) {
	seen := map[int]int{}
	for _, g := range examples(t) {
		for _, n := range g.tree().Nodes {
			seen[n.K]++
		}
		checkValidity(t, g.tree(), true)
	}
	for kind, name := range kindNames {
		if (name != "") != (seen[kind] > 0) {
			t.Errorf("%d %q has come %d times", kind, name, seen[kind])
		}
	}
}

// changes are the values that each field is set to.
var (
	someInts   = []int{-1 << 63, -1, 0, 1, 2, 3, 4, 6, 7, 8, 13, 14, 16, 17, 18, 19, 255, 2147483648, 4294967295, 4294967296, 1<<63 - 1}
	someTexts  = []string{"", "a", "_", "T", "U", "int", "while", "sizeof", "9", "9a", "a b", " a", "a ", "é", "a\x00", "+", "u", "c", "uu", "1", "\"", strings.Repeat("w", 40), strings.Repeat("w", 41), strings.Repeat("w", 200), strings.Repeat("w", 201)}
	somePlaces = []int{-1 << 63, -1, 0, 1, 1000000, 1000001, 1<<63 - 1}
)

func TestEachFieldOfEachKind(t *testing.T) {
	valid := 0
	for _, g := range examples(t) {
		tree := g.tree()
		for i := range tree.Nodes {
			n := &tree.Nodes[i]
			kept := *n
			try := func() {
				if checkValid(t, tree) {
					valid++
				}
				*n = kept
			}
			for k := -1; k <= 51; k++ {
				n.K = k
				try()
			}
			for _, value := range someInts {
				n.M = value
				try()
				n.N = value
				try()
			}
			for _, value := range someTexts {
				n.S = value
				try()
			}
			for _, value := range somePlaces {
				n.Line = value
				try()
				n.Col = value
				try()
			}
		}
	}
	if valid < 1000 {
		t.Errorf("only %d were valid", valid)
	}
}

// parts are nodes of each sort that a kid may be replaced by.
func parts() []*grown {
	number := func() *grown { return grow("number").n(7) }
	base := func() *grown { return grow("base").n(6) }
	return []*grown{
		base(), grow("base").n(1), grow("pointer", base()), grow("function", base()), grow("array", base()), grow("alias").s("T"), grow("tag").m(1).s("T"),
		grow("param", base()), grow("param", grow("base").n(1)), grow("param", base()).s("x"), grow("field", base()).s("x"), grow("enumer").s("x"),
		grow("structure", grow("field", base()).s("x")).m(1).s("S"), grow("enumeration", grow("enumer").s("x")).s("E"), grow("typedef", base()).s("U"),
		grow("var", base()).s("x"), grow("definition", grow("function", base()), grow("block")).s("x"), grow("unit"), grow("list", number()), grow("block"),
		grow("expression", number()), grow("empty"), grow("if", number(), grow("empty")), grow("if", number(), grow("empty"), grow("empty")),
		grow("for", grow("empty"), grow("empty"), grow("empty"), grow("empty")), grow("goto").s("x"), grow("return"), grow("break"),
		number(), grow("string"), grow("name").s("x"), grow("call", number()), grow("assignment", number(), number()), grow("comma", number(), number()),
	}
}

// everywhere goes through all nodes of a tree that have kids, or may have.
func everywhere(g *grown, do func(*grown)) {
	do(g)
	for _, kid := range g.kids {
		everywhere(kid, do)
	}
}

func TestKidsOfEachKind(t *testing.T) {
	valid := 0
	for _, g := range examples(t) {
		try := func() {
			if checkValid(t, g.tree()) {
				valid++
			}
		}
		everywhere(g, func(node *grown) {
			kept := node.kids
			for i := range kept {
				node.kids = slices.Delete(slices.Clone(kept), i, i+1)
				try()
				node.kids = slices.Insert(slices.Clone(kept), i, kept[i])
				try()
				for j := range i {
					node.kids = slices.Clone(kept)
					node.kids[i], node.kids[j] = node.kids[j], node.kids[i]
					try()
				}
			}
			for _, part := range parts() {
				for i := range kept {
					node.kids = slices.Clone(kept)
					node.kids[i] = part
					try()
				}
				node.kids = append(slices.Clone(kept), part)
				try()
				node.kids = []*grown{part}
				try()
			}
			node.kids = nil
			try()
			node.kids = kept
		})
	}
	if valid < 1000 {
		t.Errorf("only %d were valid", valid)
	}
}

func TestOrderOfKids(t *testing.T) {
	for _, g := range examples(t) {
		tree := g.tree()
		for i := range tree.Nodes {
			kept := tree.Nodes[i].Kids
			try := func(kids []int) {
				tree.Nodes[i].Kids = kids
				checkValidity(t, tree, slices.Equal(kids, kept))
			}
			for j := range kept {
				for _, other := range []int{-1 << 63, -1, 0, kept[j] - 1, kept[j] + 1, i, i + 1, len(tree.Nodes), 1<<63 - 1} {
					changed := slices.Clone(kept)
					changed[j] = other
					try(changed)
				}
				if j > 0 {
					changed := slices.Clone(kept)
					changed[j], changed[j-1] = changed[j-1], changed[j]
					try(changed)
				}
			}
			try(append(slices.Clone(kept), i))
			try(append(slices.Clone(kept), i-1))
			try(append([]int{0}, kept...))
			try(nil)
			tree.Nodes[i].Kids = kept
		}
	}
}

func TestNodesLeftOutOrDoubled(t *testing.T) {
	for _, g := range examples(t) {
		tree := g.tree()
		for i := range tree.Nodes {
			fewer, more := cloneTree(tree), cloneTree(tree)
			fewer.Nodes = slices.Delete(fewer.Nodes, i, i+1)
			more.Nodes = slices.Insert(more.Nodes, i, more.Nodes[i])
			checkValidity(t, fewer, false)
			checkValidity(t, more, false)
		}
	}
	checkValidity(t, impl.Tree{}, false)
	checkValidity(t, impl.Tree{Nodes: []impl.Node{}}, false)
}

func TestRoot(t *testing.T) {
	checkValidity(t, grow("unit").tree(), true)
	for _, part := range parts() {
		checkValidity(t, part.tree(), part.K == kindOf("unit"))
		checkValidity(t, grow("unit", part).tree(), part.K != kindOf("alias") && rowsBy[kindOf("unit")].kids.MatchString(letterOf(part.K)))
	}
	checkValidity(t, grow("unit", grow("unit")).tree(), false)
	two := grow("unit", grow("var", grow("base").n(6)).s("a")).tree()
	two.Nodes = append(two.Nodes, impl.Node{K: kindOf("unit")})
	checkValidity(t, two, false)
	two.Nodes[3].Kids = []int{2}
	checkValidity(t, two, false)
	two.Nodes[3].Kids = []int{1}
	checkValidity(t, two, false)
}

// tall is a tree whose lowest node is so many steps below the root.
func tall(steps int) *grown {
	g := grow("number").n(1)
	for range steps - 2 {
		g = grow("unary", g).m(2)
	}
	return grow("unit", grow("var", grow("base").n(6), g).s("a"))
}

// great is a tree of so many nodes.
func great(nodes int) *grown {
	block := grow("block")
	for range nodes - 5 {
		block.kids = append(block.kids, grow("empty"))
	}
	return grow("unit", grow("definition", grow("function", grow("base").n(6)), block).s("f"))
}

func TestGreatAndTallTrees(t *testing.T) {
	for steps := impl.MaxTall - 2; steps <= impl.MaxTall+2; steps++ {
		checkValidity(t, tall(steps).tree(), steps <= impl.MaxTall)
	}
	for nodes := impl.MaxNodes - 2; nodes <= impl.MaxNodes+2; nodes++ {
		tree := great(nodes).tree()
		if len(tree.Nodes) != nodes {
			t.Errorf("%d nodes, not %d", len(tree.Nodes), nodes)
		}
		checkValidity(t, tree, nodes <= impl.MaxNodes)
	}
	// Types and stmts count as exprs do.
	for steps := impl.MaxTall - 1; steps <= impl.MaxTall+1; steps++ {
		kind, stmt := grow("base").n(6), grow("empty")
		for range steps - 2 {
			kind = grow("pointer", kind)
		}
		for range steps - 3 {
			stmt = grow("label", stmt).s("l")
		}
		checkValidity(t, grow("unit", grow("var", kind).s("a")).tree(), steps <= impl.MaxTall)
		checkValidity(t, grow("unit", grow("definition", grow("function", grow("base").n(6)), grow("block", stmt)).s("f")).tree(), steps <= impl.MaxTall)
	}
}

func TestWordsOfTrees(t *testing.T) {
	base := func() *grown { return grow("base").n(6) }
	// Each has a word that may be an alias, or a NAME, which may not.
	forms := []struct {
		make func(s string) *grown
		name bool
	}{
		{func(s string) *grown { return grow("var", base()).s(s) }, true},
		{func(s string) *grown { return grow("typedef", base()).s(s) }, true},
		{func(s string) *grown { return grow("definition", grow("function", base()), grow("block")).s(s) }, true},
		{func(s string) *grown { return grow("var", grow("function", base(), grow("param", base()).s(s))).s("f") }, true},
		{func(s string) *grown { return grow("structure", grow("field", base()).s(s)).m(1).s("S") }, true},
		{func(s string) *grown { return grow("enumeration", grow("enumer").s(s)).s("E") }, true},
		{func(s string) *grown { return inBody(grow("var", base()).s(s)) }, true},
		{func(s string) *grown { return inBody(grow("label", grow("empty")).s(s)) }, true},
		{func(s string) *grown { return inBody(grow("goto").s(s)) }, true},
		{func(s string) *grown { return inBody(grow("expression", grow("name").s(s))) }, true},
		{func(s string) *grown { return inBody(grow("expression", grow("member", grow("name").s("x")).s(s))) }, false},
		{func(s string) *grown { return inBody(grow("expression", grow("arrow", grow("name").s("x")).s(s))) }, false},
		{func(s string) *grown { return grow("structure", grow("field", base()).s("x")).m(2).s(s) }, false},
		{func(s string) *grown { return grow("enumeration", grow("enumer").s("x")).s(s) }, false},
		{func(s string) *grown { return grow("var", grow("tag").m(1).s(s)).s("x") }, false},
		{func(s string) *grown { return grow("var", grow("tag").m(3).s(s)).s("x") }, false},
	}
	long := strings.Repeat("w", impl.MaxName)
	for i, form := range forms {
		for word, ok := range map[string]bool{
			"b": true, "_": true, "ints": true, long: true, "Z9_": true, "": false, "int": false, "typedef": false, "sizeof": false, long + "w": false, "9": false, "1u": false, "a b": false,
			" b": false, "b ": false, "b\n": false, "b//": false, "+": false, ";": false, "\"b\"": false, "'b'": false, "é": false, "b\x00": false, "b;": false,
		} {
			// A param's NAME may be missing.
			isParam := i == 3 && word == ""
			checkValidity(t, grow("unit", form.make(word)).tree(), ok || isParam)
		}
		named := grow("typedef", base()).s("T")
		checkValidity(t, grow("unit", form.make("T")).tree(), true)
		checkValidity(t, grow("unit", named.clone(), form.make("T")).tree(), !form.name)
		checkValidity(t, grow("unit", form.make("T"), named.clone()).tree(), i != 1)
		checkValidity(t, grow("unit", named.clone(), form.make("t")).tree(), true)
	}
}

// inBody is a function definition with one stmt.
func inBody(stmts ...*grown) *grown {
	return grow("definition", grow("function", grow("base").n(6)), grow("block", stmts...)).s("f")
}

func TestAliasesOfTrees(t *testing.T) {
	base := func() *grown { return grow("base").n(6) }
	named := func() *grown { return grow("typedef", base()).s("T") }
	for _, use := range []*grown{
		grow("var", grow("alias").s("T")).s("a"), grow("var", grow("pointer", grow("alias").s("T"))).s("a"), grow("typedef", grow("alias").s("T")).s("U"), grow("structure", grow("field", grow("alias").s("T")).s("x")).m(1).s("S"),
		grow("var", grow("function", base(), grow("param", grow("alias").s("T")))).s("f"), inBody(grow("var", grow("alias").s("T")).s("a")), inBody(grow("expression", grow("sizeoftype", grow("alias").s("T")))),
		inBody(grow("expression", grow("cast", grow("alias").s("T"), grow("name").s("x")))),
	} {
		checkValidity(t, grow("unit", use).tree(), false)
		checkValidity(t, grow("unit", use, named()).tree(), false)
		checkValidity(t, grow("unit", named(), use).tree(), true)
		checkValidity(t, grow("unit", grow("var", base()).s("b"), named(), grow("var", base()).s("b"), use).tree(), true)
		checkValidity(t, grow("unit", grow("var", base()).s("T"), use).tree(), false)
		checkValidity(t, grow("unit", grow("structure", grow("field", base()).s("T")).m(1).s("T"), use).tree(), false)
	}
	// A typedef does not stand in front of itself.
	checkValidity(t, grow("unit", grow("typedef", grow("alias").s("T")).s("T")).tree(), false)
	checkValidity(t, grow("unit", named(), grow("typedef", grow("alias").s("T")).s("T")).tree(), false)
	checkValidity(t, grow("unit", grow("typedef", grow("function", base(), grow("param", base()).s("T"))).s("T")).tree(), true)
	checkValidity(t, grow("unit", grow("typedef", grow("array", base(), grow("name").s("T"))).s("T")).tree(), true)
	checkValidity(t, grow("unit", named(), named()).tree(), false)
}

func TestLoneVoidParams(t *testing.T) {
	void := func(s string) *grown { return grow("param", grow("base").n(1)).s(s) }
	for _, c := range []struct {
		params []*grown
		ok     bool
	}{
		{nil, true}, {[]*grown{void("")}, false}, {[]*grown{void("x")}, true}, {[]*grown{void(""), void("")}, true}, {[]*grown{void("x"), void("")}, true}, {[]*grown{grow("param", grow("base").n(2))}, true},
		{[]*grown{grow("param", grow("pointer", grow("base").n(1)))}, true}, {[]*grown{grow("param", grow("array", grow("base").n(1)))}, true}, {[]*grown{grow("param", grow("function", grow("base").n(1)))}, true},
		{[]*grown{grow("param", grow("function", grow("base").n(1), void("")))}, false}, {[]*grown{grow("param", grow("alias").s("V"))}, true},
	} {
		for _, result := range []*grown{grow("base").n(1), grow("pointer", grow("base").n(6))} {
			function := func() *grown { return grow("function", append([]*grown{result}, c.params...)...).clone() }
			for _, top := range []*grown{
				grow("var", function()).s("f"), grow("definition", function(), grow("block")).s("f"), grow("typedef", function()).s("F"), grow("var", grow("pointer", function())).s("f"),
				inBody(grow("expression", grow("sizeoftype", grow("pointer", function())))),
			} {
				checkValidity(t, grow("unit", grow("typedef", grow("base").n(1)).s("V"), top).tree(), c.ok)
			}
		}
	}
}

func TestOpenIfs(t *testing.T) {
	number := func() *grown { return grow("number").n(1) }
	empty := func() *grown { return grow("empty") }
	short := func() *grown { return grow("if", number(), empty()) }
	// Each hides what stands last in it, or closes it.
	holders := []struct {
		hold func(g *grown) *grown
		open bool
	}{
		{func(g *grown) *grown { return g }, true},
		{func(g *grown) *grown { return grow("if", number(), empty(), g) }, true},
		{func(g *grown) *grown { return grow("while", number(), g) }, true},
		{func(g *grown) *grown { return grow("for", empty(), empty(), empty(), g) }, true},
		{func(g *grown) *grown { return grow("switch", number(), g) }, true},
		{func(g *grown) *grown { return grow("case", number(), g) }, true},
		{func(g *grown) *grown { return grow("default", g) }, true},
		{func(g *grown) *grown { return grow("label", g).s("l") }, true},
		{func(g *grown) *grown { return grow("do", g, number()) }, false},
		{func(g *grown) *grown { return grow("block", g) }, false},
	}
	for _, a := range holders {
		for _, b := range holders {
			for _, c := range holders {
				inner := func() *grown { return a.hold(b.hold(c.hold(short()))) }
				open := a.open && b.open && c.open
				checkValidity(t, grow("unit", inBody(grow("if", number(), inner(), empty()))).tree(), !open)
				checkValidity(t, grow("unit", inBody(grow("if", number(), inner()))).tree(), true)
				checkValidity(t, grow("unit", inBody(grow("if", number(), empty(), inner()))).tree(), true)
				checkValidity(t, grow("unit", inBody(grow("while", number(), inner()), inner())).tree(), true)
				closed := func() *grown { return a.hold(b.hold(c.hold(grow("if", number(), empty(), empty())))) }
				checkValidity(t, grow("unit", inBody(grow("if", number(), closed(), empty()))).tree(), true)
			}
		}
	}
}

func TestManySpoiltTrees(t *testing.T) {
	r := rand.New(rand.NewSource(12))
	valid, not := 0, 0
	for i := range 12000 {
		tree := madeUp(r, 1+i%5, i%4).tree()
		for j := range tree.Nodes {
			tree.Nodes[j].Line, tree.Nodes[j].Col = r.Intn(1000001), r.Intn(1000001)
		}
		for range r.Intn(3) {
			spoilTree(r, &tree)
		}
		if checkValid(t, tree) {
			valid++
		} else {
			not++
		}
	}
	if valid < 3000 || not < 3000 {
		t.Errorf("%d valid and %d other trees", valid, not)
	}
}

func spoilTree(r *rand.Rand, tree *impl.Tree) {
	if len(tree.Nodes) == 0 {
		return
	}
	i := r.Intn(len(tree.Nodes))
	n := &tree.Nodes[i]
	switch r.Intn(9) {
	case 0:
		n.K = r.Intn(51)
	case 1:
		n.M = someInts[r.Intn(len(someInts))]
	case 2:
		n.N = someInts[r.Intn(len(someInts))]
	case 3:
		n.S = someTexts[r.Intn(len(someTexts))]
	case 4:
		n.S = strings.Fields(someWords)[r.Intn(len(strings.Fields(someWords)))]
	case 5:
		n.Line, n.Col = somePlaces[r.Intn(len(somePlaces))], somePlaces[r.Intn(len(somePlaces))]
	case 6:
		n.Kids = append(n.Kids, r.Intn(len(tree.Nodes)+1)-1)
	case 7:
		if len(n.Kids) > 0 {
			n.Kids[r.Intn(len(n.Kids))] = r.Intn(len(tree.Nodes))
		}
	case 8:
		tree.Nodes = slices.Delete(tree.Nodes, i, i+1)
	}
}
