package tests

import (
	"math/rand"
	"strings"
	"testing"

	"loop.example/s01681/impl"
)

// moves sees that a source and the same tree written with other blanks, comments and brackets have one core, or one code
// at the place of one node.
func moves(t *testing.T, text, other string) int {
	t.Helper()
	core, code, line, col := check(t, text)
	otherCore, otherCode, otherLine, otherCol := check(t, other)
	if code != otherCode || core != otherCore {
		t.Errorf("%q has %d %d %d, and as\n%q %d %d %d", text, code, line, col, other, otherCode, otherLine, otherCol)
		return code
	}
	if code < 20 {
		return code
	}
	tree, _, _, _ := impl.Parse([]byte(text))
	otherTree, _, _, _ := impl.Parse([]byte(other))
	for i, n := range tree.Nodes {
		o := otherTree.Nodes[i]
		if n.Line == line && n.Col == col && o.Line == otherLine && o.Col == otherCol {
			return code
		}
	}
	t.Errorf("%q has %d at %d %d, and as\n%q at %d %d", text, code, line, col, other, otherLine, otherCol)
	return code
}

// spoiler changes a tree a little.
type spoiler struct {
	r     *rand.Rand
	nodes []*grown
	words []string
}

func newSpoiler(r *rand.Rand, g *grown) *spoiler {
	s := &spoiler{r: r}
	var walk func(g *grown)
	walk = func(g *grown) {
		s.nodes = append(s.nodes, g)
		if g.S != "" && kindNames[g.K] != "string" && kindNames[g.K] != "number" {
			s.words = append(s.words, g.S)
		}
		for _, kid := range g.kids {
			walk(kid)
		}
	}
	walk(g)
	return s
}

func isExpr(g *grown) bool { return g.K >= kindOf("number") }

func (s *spoiler) node(fits func(*grown) bool) *grown {
	for range 200 {
		if g := s.nodes[s.r.Intn(len(s.nodes))]; fits(g) {
			return g
		}
	}
	return s.nodes[len(s.nodes)-1]
}

func (s *spoiler) spoil() {
	g := s.node(func(*grown) bool { return true })
	switch s.r.Intn(8) {
	case 0, 1:
		// An expr in the place of another one.
		from, to := s.node(isExpr), s.node(isExpr)
		if isExpr(from) && isExpr(to) {
			*to = *from.clone()
		}
		return
	case 2:
		// A stmt, top, field or init once more, or no more.
		g = s.node(func(g *grown) bool { return len(g.kids) > 1 })
		if at := s.r.Intn(max(len(g.kids), 1)); len(g.kids) > 1 && s.r.Intn(2) == 0 {
			g.kids = append(append([]*grown{}, g.kids[:at]...), g.kids[at+1:]...)
		} else if len(g.kids) > 1 {
			g.kids = append(append([]*grown{}, g.kids[:at+1]...), g.kids[at:]...)
		}
		*g = *g.clone()
		return
	case 3:
		if len(g.kids) > 1 {
			i, j := s.r.Intn(len(g.kids)), s.r.Intn(len(g.kids))
			g.kids[i], g.kids[j] = g.kids[j], g.kids[i]
			return
		}
	}
	s.change(g)
}

// change gives a node another number or word.
func (s *spoiler) change(g *grown) {
	most := map[string]int{"tag": 3, "post": 2, "pre": 2, "unary": 6, "binary": 18, "structure": 2}[kindNames[g.K]]
	switch {
	case kindNames[g.K] == "base":
		g.N = 1 + s.r.Intn(7)
	case kindNames[g.K] == "number":
		g.N, g.S = []int{0, 1, 2, 5, 40, 70000}[s.r.Intn(6)], []string{"", "u"}[s.r.Intn(2)]
	case kindNames[g.K] == "string":
		g.S = strings.Repeat("z", s.r.Intn(6))
	case kindNames[g.K] == "assignment":
		g.M = []int{0, 1, 2, 3, 4, 5, 6, 7, 14, 15, 16}[s.r.Intn(11)]
	case most > 0 && s.r.Intn(3) > 0:
		g.M = 1 + s.r.Intn(most)
	case g.S != "":
		g.S = s.words[s.r.Intn(len(s.words))]
	}
}

// Promise 9, for sources that are right and for spoilt ones.
func TestBlanksCommentsAndBrackets(t *testing.T) {
	t.Parallel()
	counts := map[int]int{}
	for seed := range 1600 {
		r := rand.New(rand.NewSource(int64(seed)))
		text := madeProgram(r, []int{0, 300}[seed%2])
		tree, code, _, _ := impl.Parse([]byte(text))
		if code != 0 {
			continue
		}
		g := grownOf(tree)
		if seed%4 > 0 {
			newSpoiler(r, g).spoil()
			for r.Intn(3) == 0 {
				newSpoiler(r, g).spoil()
			}
			if !impl.TreeOk(g.tree()) {
				continue
			}
			text = sourceOf(r, g)
		}
		if len(text) > impl.MaxSource/4 {
			continue
		}
		counts[moves(t, text, sourceOf(r, g))]++
	}
	for code := 20; code <= 31; code++ {
		if counts[code] == 0 && code != 26 && code != 31 && code != 30 {
			t.Errorf("no made-up source has the code %d", code)
		}
	}
	if counts[0] < 300 {
		t.Errorf("%v", counts)
	}
}

// The same for sources that each have one code, by hand.
func TestOtherBlanksByHand(t *testing.T) {
	for _, text := range []string{
		"int a=x;", "int a,a;", "void a;", "int f(void){1=2;}", "int f(int*p){p*p;}", "struct S{int a;};int f(struct S*p){p->b;}", "int f(void){f(1);}", "int a[0];", "int a={1};", "int f(void){break;}", "int f(void){return;}", "int f(void);", "int a[15001];", "int f(void){goto x;}", "int a[2]={1,{2}};", "enum E{A,A};", "int f(int,int b){}", "int a=1/0;", "int f(void){switch(1){case 1:;case 1:;}}",
	} {
		text += emptyMain
		tree, _, _, _ := impl.Parse([]byte(text))
		for seed := range 20 {
			other := sourceOf(rand.New(rand.NewSource(int64(seed))), grownOf(tree))
			if moves(t, text, other) < 20 {
				t.Errorf("%q is right", text)
			}
		}
	}
}

// Any source at all has a code and a place within it or at its end.
func placed(t *testing.T, text string) {
	t.Helper()
	core, code, line, col := impl.Check([]byte(text))
	if code == 0 {
		if line != 0 || col != 0 || len(core) == 0 {
			t.Errorf("%q: 0, %d, %d", text, line, col)
		}
		return
	}
	lines := strings.Split(text, "\n")
	if len(core) > 0 || code < 0 || code > 32 || code > 11 && code < 20 || line < 1 || line > len(lines) || col < 1 || col > len(lines[line-1])+1 {
		t.Errorf("%q: %d, %d, %d beside %d bytes", text, code, line, col, len(core))
	}
	if code <= 11 {
		if _, parseCode, parseLine, parseCol := impl.Parse([]byte(text)); code != parseCode || line != parseLine || col != parseCol {
			t.Errorf("%q: %d, %d, %d, but Parse says %d, %d, %d", text, code, line, col, parseCode, parseLine, parseCol)
		}
	}
}

func TestAnySource(t *testing.T) {
	t.Parallel()
	for seed := range 400 {
		r := rand.New(rand.NewSource(int64(seed)))
		text := madeProgram(r, 200)
		placed(t, text[:r.Intn(len(text)+1)])
		// Tokens left out, doubled, or taken from elsewhere.
		tokens, _, _, _ := impl.Lex([]byte(text))
		parts := []string{}
		for _, token := range tokens {
			parts = append(parts, impl.TokenText(token))
		}
		for range 3 {
			at := r.Intn(len(parts))
			switch r.Intn(3) {
			case 0:
				parts[at] = ""
			case 1:
				parts[at] += " " + parts[at]
			case 2:
				parts[at] = parts[r.Intn(len(parts))]
			}
			check(t, strings.Join(parts, " "))
			placed(t, strings.Join(parts, "\n"))
		}
		// Bytes changed.
		spoilt := []byte(text)
		for range 1 + r.Intn(4) {
			spoilt[r.Intn(len(spoilt))] = byte(r.Intn(256))
		}
		placed(t, string(spoilt))
		random := make([]byte, r.Intn(60))
		for i := range random {
			random[i] = byte(r.Intn(256))
		}
		placed(t, string(random))
	}
	// Trees of the grammar that mean nothing in particular.
	for seed := range 1500 {
		r := rand.New(rand.NewSource(int64(seed)))
		if text, ok := impl.Print(madeUp(r, 6, 3).tree()); ok {
			check(t, string(text))
			placed(t, string(text))
		}
	}
}
