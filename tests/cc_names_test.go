package tests

import (
	"bytes"
	"fmt"
	"math/rand"
	"slices"
	"strings"
	"sync/atomic"
	"testing"

	"loop.example/s01681/impl"
)

// renamer gives locals, params, labels and members other names. The new ones are the same for all of these, each sort having
// its own: they are apart. Each local gets one that no other has, so that none hides another any more.
type renamer struct {
	long    bool
	scopes  []map[string]string
	members map[string]string
	labels  map[string]string
	locals  int
}

func (n *renamer) made(number int) string {
	name := fmt.Sprintf("nn%d", number)
	if n.long {
		name += "_" + strings.Repeat("x", impl.MaxName-len(name)-1)
	}
	return name
}

// other gives the new name of one in a list, the next one when it is not there yet.
func (n *renamer) other(list map[string]string, name string) string {
	if list[name] == "" {
		list[name] = n.made(len(list))
	}
	return list[name]
}

func (n *renamer) declare(g *grown) {
	if len(n.scopes) > 0 && g.S != "" {
		old := g.S
		g.S = n.made(n.locals)
		n.locals++
		n.scopes[len(n.scopes)-1][old] = g.S
	}
}

func (n *renamer) within(do func()) {
	n.scopes = append(n.scopes, map[string]string{})
	do()
	n.scopes = n.scopes[:len(n.scopes)-1]
}

func (n *renamer) all(kids []*grown) {
	for _, kid := range kids {
		n.rename(kid)
	}
}

// definition renames in a function: its params have one scope with what its body declares directly.
func (n *renamer) definition(g *grown) {
	fun, body := g.kids[0], g.kids[1]
	n.labels = map[string]string{}
	n.rename(fun.kids[0])
	for _, param := range fun.kids[1:] {
		n.all(param.kids)
	}
	n.within(func() {
		for _, param := range fun.kids[1:] {
			n.declare(param)
		}
		n.all(body.kids)
	})
}

func (n *renamer) rename(g *grown) {
	switch kindNames[g.K] {
	case "definition":
		n.definition(g)
		return
	case "block", "for":
		n.within(func() { n.all(g.kids) })
		return
	case "var":
		n.rename(g.kids[0])
		n.declare(g)
		n.all(g.kids[1:])
		return
	case "param":
		// Of a function that is only declared, or of a pointer to one: it means nothing.
		if g.S != "" {
			g.S = n.made(n.locals)
			n.locals++
		}
	case "name":
		for _, scope := range slices.Backward(n.scopes) {
			if scope[g.S] != "" {
				g.S = scope[g.S]
				break
			}
		}
	case "label", "goto":
		g.S = n.other(n.labels, g.S)
	case "field", "member", "arrow":
		g.S = n.other(n.members, g.S)
	}
	n.all(g.kids)
}

// renamed gives a right source with other names.
func renamed(t *testing.T, r *rand.Rand, text string, long bool) string {
	t.Helper()
	tree, code, _, _ := impl.Parse([]byte(text))
	if code != 0 {
		t.Fatalf("%.300q: %d", text, code)
	}
	g := grownOf(tree)
	n := &renamer{long: long, members: map[string]string{}}
	n.rename(g)
	if r != nil {
		return sourceOf(r, g)
	}
	other, ok := impl.Print(g.tree())
	if !ok {
		t.Fatalf("%.300q: not a tree any more", text)
	}
	return string(other)
}

// Promise 20, by hand: two sources that differ in the names of locals, params, labels and members alone.
func TestOtherNamesByHand(t *testing.T) {
	t.Parallel()
	for _, c := range []struct{ a, b string }{
		{"int f(int a){return a;}" + emptyMain, "int f(int another){return another;}" + emptyMain}, {"int g;int f(int x){return x+g;}" + emptyMain, "int g;int f(int f){return f+g;}" + emptyMain}, {"int g;int f(int x){int y=x;return y;}" + emptyMain, "int g;int f(int g){int main=g;return main;}" + emptyMain}, {"int f(int a,int b);int f(int c,int d){return c-d;}" + emptyMain, "int f(int,int f);int f(int b,int a){return b-a;}" + emptyMain},
		{whole("int i=1;{int i=2;putchar(i);}return i;"), whole("int i=1;{int k=2;putchar(k);}return i;")}, {whole("int a=1,b=2;return a-b;"), whole("int b=1,a=2;return b-a;")}, {whole("for(int i=0;i<3;i++)for(int i=0;i<2;i++)putchar('0'+i);"), whole("for(int a=0;a<3;a++)for(int b=0;b<2;b++)putchar('0'+b);")}, {whole("int putchar_=1;return putchar_;"), whole("int putchar=1;return putchar;")},
		{whole("l:goto l;m:goto m;"), whole("m:goto m;l:goto l;")}, {whole("int n=0;again:if(n++<3)goto again;return n;"), whole("int n=0;n:if(n++<3)goto n;return n;")}, {whole("goto b;a:return 1;b:goto a;"), whole("goto main;putchar:return 1;main:goto putchar;")},
		{"struct S{int a;char b;};struct S s={1,2};int main(void){return s.a-s.b;}", "struct S{int b;char a;};struct S s={1,2};int main(void){return s.b-s.a;}"}, {"struct S{int a;struct S*n;};struct S s;int f(struct S*p){return p->n->a+s.a;}" + emptyMain, "struct S{int S;struct S*s;};struct S s;int f(struct S*f){return f->s->S+s.S;}" + emptyMain}, {"union U{int i;char c[4];};int main(void){union U u;u.i=5;return u.c[0];}", "union U{int main;char u[4];};int main(void){union U U;U.main=5;return U.u[0];}"},
	} {
		if !isWrittenAlike(t, c.a, c.b, 64) {
			t.Errorf("%q and %q are not written", c.a, c.b)
		}
	}
	// What globals and functions are called does show.
	for _, c := range []struct{ a, b string }{{"int a;" + emptyMain, "int b;" + emptyMain}, {"int f(void){return 1;}" + emptyMain, "int g(void){return 1;}" + emptyMain}} {
		x, _, _, _ := impl.Compile([]byte(c.a), 64)
		y, _, _, _ := impl.Compile([]byte(c.b), 64)
		if bytes.Equal(x, y) {
			t.Errorf("%q and %q have one text", c.a, c.b)
		}
	}
}

func TestOtherNames(t *testing.T) {
	texts := []string{lowTops + emptyMain, aBody + emptyMain}
	for _, c := range sourcesByHand() {
		texts = append(texts, whole(c.text))
	}
	var written atomic.Int32
	count := len(texts) + 360
	seeds(t, count, func(t *testing.T, seed int) {
		r := rand.New(rand.NewSource(int64(seed) + 2020))
		text := ""
		switch {
		case seed < len(texts):
			text = texts[seed]
		case seed%3 == 0:
			text = madeRun(r, 0)
		case seed%3 == 1:
			text = madeProgram(r, 0)
		default:
			text = madeWideRun(r)
		}
		if _, code, _, _ := impl.Check([]byte(text)); code != 0 {
			return
		}
		for _, other := range []string{renamed(t, nil, text, false), renamed(t, r, text, false), renamed(t, nil, text, true)} {
			if len(other) <= impl.MaxSource {
				written.Add(int32(oneIf(isWrittenAlike(t, text, other, 4096))))
			}
		}
	})
	if int(written.Load()) < 2*count {
		t.Errorf("%d are written", written.Load())
	}
}

// behind sees the second half of promise 20: a function put behind a source leaves the words in front of it, and the data.
func behind(t *testing.T, text, function string, strings int) {
	t.Helper()
	front, code, _, _ := impl.Build([]byte(text), 4096)
	if code != 0 {
		return
	}
	both, code, line, col := impl.Build([]byte(text+function), 4096)
	if code == 1 || code == 9 || code == 11 || code >= 32 {
		return
	}
	if code != 0 || len(both.Code) <= len(front.Code) || !slices.Equal(both.Code[:len(front.Code)], front.Code) {
		t.Errorf("%.1000q and %q behind it: %d, %d, %d, or other words", text, function, code, line, col)
		return
	}
	// Its strings are data of their own.
	if len(both.Data) < len(front.Data) || !bytes.Equal(both.Data[:len(front.Data)], front.Data) || strings == 0 && len(both.Data) != len(front.Data) {
		t.Errorf("%.1000q and %q behind it: %d bytes of data, or others, not %d", text, function, len(both.Data), len(front.Data))
	}
	if both.Entry != front.Entry || both.Stack != front.Stack {
		t.Errorf("%.1000q and %q behind it: %d, %d", text, function, both.Entry, both.Stack)
	}
	a, _, _, _ := impl.Compile([]byte(text), 4096)
	b, _, _, _ := impl.Compile([]byte(text+function), 4096)
	if at := bytes.Index(a, []byte("  .data\n")); !bytes.HasPrefix(b, a[:at]) {
		t.Errorf("%.1000q and %q behind it: other lines", text, function)
	}
	in := []byte("in")
	x, _, _, _ := impl.Exec([]byte(text), in, 20000, 4096)
	y, _, _, _ := impl.Exec([]byte(text+function), in, 20000, 4096)
	if !sameOutcome(x, y) {
		t.Errorf("%.1000q and %q behind it: %v, not %v", text, function, y, x)
	}
}

func TestFunctionsBehind(t *testing.T) {
	texts := []string{emptyMain, "int a=5,*p=&a;char*s=\"text\";" + emptyMain, lowTops + emptyMain}
	for _, c := range sourcesByHand() {
		texts = append(texts, whole(c.text))
	}
	seeds(t, len(texts)+150, func(t *testing.T, seed int) {
		r := rand.New(rand.NewSource(int64(seed) + 3030))
		text := ""
		if seed < len(texts) {
			text = texts[seed]
		} else if seed%2 == 0 {
			text = madeRun(r, 0)
		} else {
			text = madeWideRun(r)
		}
		for strings, functions := range [][]string{
			{"void last_(void){}", "int last_(int a,char b){int c[9]={1};&a;while(a--)b+=c[a&7];return b;}", "void last_(void){main();last_();putchar(getchar());exit(1);}", "char*last_(char*p,int n){if(n)return last_(p+1,n-1);l:if(*p)goto l;return p;}"},
			{"char*last_(void){return\"more\";}"}, {"int last_(int n){char*p=\"x\",*q=\"another one\";return p[n]+q[n];}"},
		} {
			for _, function := range functions {
				behind(t, text, function, strings)
			}
		}
	})
}
