package tests

import (
	"math/rand"
	"regexp"
	"slices"
	"strconv"
	"strings"
	"testing"

	"loop.example/s01681/impl"
)

// unitGrammar is the document's grammar. The words below it stand in it too: a decl with a body is a fdecl, of a
// function, and what stands in the inner brackets of a loose or bare begins with a *, a ( or a NAME.
const unitGrammar = `
unit    = { top }
top     = "typedef" specs decl ";"
        | ( "struct" | "union" ) WORD "{" field { field } "}" ";"
        | "enum" WORD "{" enumer { "," enumer } [ "," ] "}" ";"
        | specs fdecl body
        | specs var { "," var } ";"
field   = specs decl { "," decl } ";"
enumer  = NAME [ "=" cond ]
var     = decl [ "=" init ]
init    = assign | "{" init { "," init } [ "," ] "}"
specs   = "void" | [ "signed" | "unsigned" ] ( "char" | "short" [ "int" ] | "int" ) | "signed" | "unsigned"
        | ( "struct" | "union" | "enum" ) WORD | ALIAS
suffix  = "[" [ cond ] "]" | params
decl    = { "*" } ( NAME | "(" decl ")" ) { suffix }
fdecl   = { "*" } ( plain params | "(" fdecl ")" ) { suffix }
plain   = NAME | "(" plain ")"
loose   = { "*" } [ NAME | "(" looser ")" ] { suffix }
looser  = "*" loose | NAME { suffix } | "(" looser ")" { suffix } | params { suffix }
bare    = { "*" } [ "(" barer ")" ] { suffix }
barer   = "*" bare | "(" barer ")" { suffix } | params { suffix }
params  = "(" ")" | "(" "void" ")" | "(" specs loose { "," specs loose } ")"
body    = "{" { specs var { "," var } ";" | stmt } "}"
stmt    = body | ";" | expr ";" | NAME ":" stmt
        | "if" "(" expr ")" stmt [ "else" stmt ] | "while" "(" expr ")" stmt | "do" stmt "while" "(" expr ")" ";"
        | "for" "(" ( ";" | expr ";" | specs var ";" ) [ expr ] ";" [ expr ] ")" stmt
        | "switch" "(" expr ")" stmt | "case" cond ":" stmt | "default" ":" stmt
        | "goto" NAME ";" | "break" ";" | "continue" ";" | "return" [ expr ] ";"
expr    = assign { "," assign }
assign  = cond [ ( "=" | "*=" | "/=" | "%=" | "+=" | "-=" | "<<=" | ">>=" | "&=" | "^=" | "|=" ) assign ]
cond    = or [ "?" expr ":" cond ]
or      = and { "||" and }
and     = bor { "&&" bor }
bor     = xor { "|" xor }
xor     = band { "^" band }
band    = eq { "&" eq }
eq      = rel { ( "==" | "!=" ) rel }
rel     = shift { ( "<" | ">" | "<=" | ">=" ) shift }
shift   = sum { ( "<<" | ">>" ) sum }
sum     = term { ( "+" | "-" ) term }
term    = cast { ( "*" | "/" | "%" ) cast }
cast    = "(" specs bare ")" cast | unary
unary   = ( "++" | "--" ) unary | ( "+" | "-" | "~" | "!" | "*" | "&" ) cast
        | "sizeof" "(" specs bare ")" | "sizeof" unary | postfix
postfix = primary { "[" expr "]" | "(" [ assign { "," assign } ] ")" | ( "." | "->" ) WORD | "++" | "--" }
primary = NAME | INT | STR | "(" expr ")"
`

// grammar has rules whose symbols are numbers: those of names below 0, of terminals from 0 on.
type grammar struct {
	rules     [][]int // the symbol that is made, then what it is made of
	byName    map[string]int
	terminals map[string]int
	madeBy    map[int][]int
	nullable  map[int]bool
	words     []string // what is left to read
}

func readGrammar(text string) *grammar {
	g := &grammar{byName: map[string]int{}, terminals: map[string]int{}, madeBy: map[int][]int{}, nullable: map[int]bool{}}
	g.words = regexp.MustCompile(`"[^"]*"|\w+|[=|\[\]{}()]`).FindAllString(text, -1)
	for len(g.words) > 0 {
		name := g.take()
		g.take()
		g.choice(g.named(name))
	}
	for changed := true; changed; {
		changed = false
		for i, rule := range g.rules {
			if !slices.Contains(g.madeBy[rule[0]], i) {
				g.madeBy[rule[0]] = append(g.madeBy[rule[0]], i)
			}
			empty := !slices.ContainsFunc(rule[1:], func(s int) bool { return !g.nullable[s] })
			if empty && !g.nullable[rule[0]] {
				g.nullable[rule[0]], changed = true, true
			}
		}
	}
	return g
}

func (g *grammar) take() string {
	word := g.words[0]
	g.words = g.words[1:]
	return word
}

func (g *grammar) named(name string) int {
	if _, ok := g.byName[name]; !ok {
		g.byName[name] = -1 - len(g.byName)
	}
	return g.byName[name]
}

// nameless is a symbol for what stands in brackets.
func (g *grammar) nameless() int {
	return g.named("#" + strconv.Itoa(len(g.byName)))
}

func (g *grammar) terminal(name string) int {
	if _, ok := g.terminals[name]; !ok {
		g.terminals[name] = len(g.terminals)
	}
	return g.terminals[name]
}

// choice reads ways that a symbol is made, up to a bracket that closes or the next rule.
func (g *grammar) choice(made int) {
	rule := []int{made}
	for len(g.words) > 0 && !(len(g.words) > 1 && g.words[1] == "=") {
		switch word := g.words[0]; {
		case word == "]" || word == "}" || word == ")":
			g.rules = append(g.rules, rule)
			return
		case word == "|":
			g.take()
			g.rules = append(g.rules, rule)
			rule = []int{made}
		default:
			rule = append(rule, g.symbol())
		}
	}
	g.rules = append(g.rules, rule)
}

func (g *grammar) symbol() int {
	word := g.take()
	switch {
	case word[0] == '"':
		return g.terminal(strings.Trim(word, `"`))
	case slices.Contains([]string{"NAME", "ALIAS", "WORD", "INT", "STR"}, word):
		return g.terminal(word)
	case word != "[" && word != "{" && word != "(":
		return g.named(word)
	}
	inner := g.nameless()
	g.choice(inner)
	g.take()
	if word == "(" {
		return inner
	}
	outer := g.nameless()
	rule := []int{outer, inner}
	if word == "{" {
		rule = []int{outer, outer, inner}
	}
	g.rules = append(g.rules, []int{outer}, rule)
	return outer
}

// item is a rule with a place in it, and where in the source it was begun.
type item struct {
	rule, dot, from int
}

// follower goes through a source token by token, and keeps all the ways in which a unit can go on.
type follower struct {
	g    *grammar
	sets [][]item
}

func (g *grammar) follow() *follower {
	f := &follower{g: g}
	f.close(g.begin(g.named("unit"), 0))
	return f
}

func (g *grammar) begin(symbol, at int) []item {
	out := []item{}
	for _, rule := range g.madeBy[symbol] {
		out = append(out, item{rule, 1, at})
	}
	return out
}

// close adds a set: what was begun, and all that this begins or ends.
func (f *follower) close(set []item) {
	at := len(f.sets)
	seen := map[item]struct{}{}
	work := []item{}
	add := func(items ...item) {
		for _, one := range items {
			if _, ok := seen[one]; !ok {
				seen[one] = struct{}{}
				work = append(work, one)
			}
		}
	}
	add(set...)
	for i := 0; i < len(work); i++ {
		one := work[i]
		rule := f.g.rules[one.rule]
		if one.dot == len(rule) {
			if one.from == at {
				// It is of nothing, and was passed over where it was begun.
				continue
			}
			for _, before := range f.sets[one.from] {
				if outer := f.g.rules[before.rule]; before.dot < len(outer) && outer[before.dot] == rule[0] {
					add(item{before.rule, before.dot + 1, before.from})
				}
			}
		} else if symbol := rule[one.dot]; symbol < 0 {
			add(f.g.begin(symbol, at)...)
			if f.g.nullable[symbol] {
				add(item{one.rule, one.dot + 1, one.from})
			}
		}
	}
	f.sets = append(f.sets, work)
}

// takes says whether a unit can go on with a token of one of these terminals, and goes on.
func (f *follower) takes(names []string) bool {
	next := []item{}
	for _, one := range f.sets[len(f.sets)-1] {
		rule := f.g.rules[one.rule]
		if one.dot == len(rule) || rule[one.dot] < 0 {
			continue
		}
		for _, name := range names {
			if n, ok := f.g.terminals[name]; ok && n == rule[one.dot] {
				next = append(next, item{one.rule, one.dot + 1, one.from})
			}
		}
	}
	if len(next) == 0 {
		return false
	}
	f.close(next)
	return true
}

// can tells the same of one token, but does not go on.
func (f *follower) can(names []string) bool {
	ok := f.takes(names)
	if ok {
		f.sets = f.sets[:len(f.sets)-1]
	}
	return ok
}

// canEnd says whether the tokens so far are a unit.
func (f *follower) canEnd() bool {
	for _, one := range f.sets[len(f.sets)-1] {
		rule := f.g.rules[one.rule]
		if rule[0] == f.g.named("unit") && one.dot == len(rule) && one.from == 0 {
			return true
		}
	}
	return false
}

// terminalsOf names a token; it needs the tokens in front to know an alias.
func terminalsOf(tok impl.Token, before []impl.Token) []string {
	switch tok.Kind {
	case impl.TokInt:
		return []string{"INT"}
	case impl.TokStr:
		return []string{"STR"}
	case impl.TokName:
		if slices.Contains(aliasesOf(before), tok.S) {
			return []string{"WORD", "ALIAS"}
		}
		return []string{"WORD", "NAME"}
	}
	return []string{tok.S}
}

// aliasesOf leans on what is in front being a part of a unit: of a typedef it takes the first name behind the specs.
func aliasesOf(tokens []impl.Token) []string {
	out := []string{}
	is := func(i int, texts ...string) bool {
		return i < len(tokens) && tokens[i].Kind != impl.TokStr && slices.Contains(texts, tokens[i].S)
	}
	for i := 0; i < len(tokens); i++ {
		if !is(i, "typedef") {
			continue
		}
		i++
		switch {
		case is(i, "struct", "union", "enum"):
			i += 2
		case i < len(tokens) && tokens[i].Kind == impl.TokName:
			i++
		}
		name := ""
		for ; i < len(tokens) && !is(i, ";"); i++ {
			if tokens[i].Kind == impl.TokName && name == "" {
				name = tokens[i].S
			}
		}
		if i < len(tokens) {
			out = append(out, name)
		}
	}
	return out
}

// firstMisfit is the place of the first token with which no unit can go on, the TokEnd counted, or -1.
func (g *grammar) firstMisfit(tokens []impl.Token) int {
	f := g.follow()
	for i, tok := range tokens[:len(tokens)-1] {
		if !f.takes(terminalsOf(tok, tokens[:i])) {
			return i
		}
	}
	if !f.canEnd() {
		return len(tokens) - 1
	}
	return -1
}

// sourceOfTokens writes tokens with one blank behind each.
func sourceOfTokens(tokens []impl.Token) string {
	out := ""
	for _, tok := range tokens {
		if tok.Kind != impl.TokEnd {
			out += impl.TokenText(tok) + " "
		}
	}
	return out
}

func (g *grammar) checkMisfit(t *testing.T, tokens []impl.Token) int {
	t.Helper()
	text := sourceOfTokens(tokens)
	tokens = lexed(t, text)
	want := g.firstMisfit(tokens)
	_, code, line, col := parse(t, text)
	if want < 0 && code != 0 || want >= 0 && (code != 10 || line != 1 || col != tokens[want].Col) {
		t.Errorf("%q: %d, %d, %d, not misfit %d", text, code, line, col, want)
	}
	return want
}

// everyToken has each key word and sign once, a name, an alias when T is one, and literals.
func everyToken() []impl.Token {
	out := []impl.Token{name("zz"), name("T"), name("f"), integer(1, ""), str("s")}
	for word := range strings.FieldsSeq(keyWords) {
		out = append(out, key(word))
	}
	for s := range strings.FieldsSeq(allSigns) {
		out = append(out, sign(s))
	}
	return out
}

// manyForms have each form of each rule of the grammar.
const manyForms = `
typedef int T ; T a , * b = 1 , ( c ) [ 2 ] = { 1 , { 2 , } , 3 } ;
typedef struct T ( * U ) ( void ) ;
struct S { int a ; unsigned short int * b , c [ ] ; struct T * x ; } ; union U { signed char a ; } ; union U u ;
enum E { A , B = 1 ? 2 : 3 , C , } ; enum E { A } ; enum E e ;
int f ( void ) { } int ( g ) ( ) { } int * ( ( h ) ( int , char * x ) ) [ 3 ] { } int f ( void ) , g ( int x ) = 1 ;
int f ( int ( * ) ( void ) , int ( x ) , int ( ( ) ) , int ( int ) , int * [ 2 ] , int ( ( * x ) ( void ) [ 1 ] ) , void , void * ) ;
typedef int T ; int f ( T , T ( T ) , T ( x ) , int ( T x ) , struct T ( * ) ) ;
int f ( ) { int a = 1 , * b ; { } ; a ; a , b ; l : ; if ( a ) ; if ( a ) if ( b ) ; else ; else ; while ( a ) { } do ; while ( a ) ; }
int f ( ) { for ( ; ; ) ; for ( a ; b ; c ) ; for ( int i = 1 ; ; ) { } switch ( a ) { case 1 : case 2 ? 3 : 4 : default : ; } goto l ; break ; continue ; return ; return a ; }
int a = b = c *= d /= e %= f += g -= h <<= i >>= j &= k ^= l |= m ;
int a = b ? c , d : e ? f : g || h && i | j ^ k & l == m != n < o > p <= q >= r << s >> t + u - v * w / x % y ;
typedef int T ; int a = ( int ) ( T * ) b + ( unsigned ( * ) ( int x ) ) c - ( struct S [ 2 ] ) ( d ) ;
int a = ++ b + -- c + + d - - e * ~ f / ! g % * h & & i + sizeof ( int ) + sizeof ( int ( * ( * ) ( void ) ) [ 1 ] ) - sizeof b - sizeof ( b ) - sizeof sizeof ( int ) ;
int a = b [ c , d ] ( ) ( e , f = g ) . x -> y ++ -- + "s" [ 1 ] + ( a , b ) ( c ) ;
typedef int T ; int a = b . T -> T ; struct T { int x ; } ; enum T { T2 } ;
`

func TestEachTokenAtEachPlace(t *testing.T) {
	g := readGrammar(unitGrammar)
	candidates := everyToken()
	for line := range strings.Lines(strings.TrimSpace(manyForms)) {
		tokens := lexed(t, strings.TrimSpace(line))
		if _, code, _, col := parse(t, line); code != 0 {
			t.Errorf("%q: %d at %d", line, code, col)
		}
		f := g.follow()
		for i, tok := range tokens {
			text := sourceOfTokens(tokens[:i])
			for _, other := range candidates {
				can := f.can(terminalsOf(other, tokens[:i]))
				_, code, _, col := parse(t, text+impl.TokenText(other))
				if can && code == 10 && col <= len(text)+1 || !can && (code != 10 || col != len(text)+1) {
					t.Errorf("%q and %q: %d at %d, can it go on: %v", text, other.S, code, col, can)
				}
			}
			_, code, _, col := parse(t, text)
			if end := f.canEnd(); end != (code == 0) || !end && col != len(text)+1 {
				t.Errorf("%q: %d at %d, can it end: %v", text, code, col, end)
			}
			if tok.Kind != impl.TokEnd && !f.takes(terminalsOf(tok, tokens[:i])) {
				t.Fatalf("%q: the grammar does not take its own form at %q", line, tok.S)
			}
		}
	}
}

func TestManySpoiltSources(t *testing.T) {
	g := readGrammar(unitGrammar)
	r := rand.New(rand.NewSource(10))
	candidates := everyToken()
	right, wrong := 0, 0
	for range 4000 {
		text := sourceOf(r, madeUp(r, 3, 3))
		tokens := lexed(t, text)
		if len(tokens) > 120 {
			continue
		}
		for range 1 + r.Intn(3) {
			tokens = spoilt(r, tokens, candidates)
		}
		if g.checkMisfit(t, tokens) < 0 {
			right++
		} else {
			wrong++
		}
	}
	if right < 100 || wrong < 500 {
		t.Errorf("%d right and %d wrong ones: the sources are not of both", right, wrong)
	}
}

// spoilt puts in, leaves out, doubles, swaps or changes a token.
func spoilt(r *rand.Rand, tokens, candidates []impl.Token) []impl.Token {
	out := slices.Clone(tokens)
	i := r.Intn(len(out))
	other := candidates[r.Intn(len(candidates))]
	switch last := i == len(out)-1; {
	case last || r.Intn(4) == 0:
		return slices.Insert(out, i, other)
	case r.Intn(3) == 0:
		return slices.Delete(out, i, i+1)
	case r.Intn(3) == 0:
		return slices.Insert(out, i, out[i])
	case r.Intn(3) == 0:
		j := r.Intn(len(out) - 1)
		out[i], out[j] = out[j], out[i]
	default:
		out[i] = other
	}
	return out
}

// TestManyStrayTokens strings tokens together that can follow one another, and goes astray at the end.
func TestManyStrayTokens(t *testing.T) {
	g := readGrammar(unitGrammar)
	r := rand.New(rand.NewSource(11))
	candidates := everyToken()
	used := map[string]int{}
	for range 400 {
		tokens := []impl.Token{}
		f := g.follow()
		for range 1 + r.Intn(25) {
			fits := []impl.Token{}
			for _, other := range candidates {
				if f.can(terminalsOf(other, tokens)) {
					fits = append(fits, other)
				}
			}
			next := fits[r.Intn(len(fits))]
			f.takes(terminalsOf(next, tokens))
			tokens = append(tokens, next)
			used[next.S]++
		}
		g.checkMisfit(t, append(tokens, impl.Token{}))
		g.checkMisfit(t, append(tokens, candidates[r.Intn(len(candidates))], impl.Token{}))
	}
	if len(used) < len(candidates)*3/4 {
		t.Errorf("only %d tokens were used", len(used))
	}
}
