package tests

import (
	"fmt"
	"strconv"
	"strings"

	"loop.example/s01681/impl"
)

// A second reading of how a source is lowered: Check's text is read again, and the document's tables stand here as texts,
// each row a form with names for its parts, what is written, and the register of the value.
//
// Of what is written, `labels` makes new labels and `new` a register; a name of a part comes to it; all else is a step as
// aStep reads it, in which a small letter that stands for no register yet becomes a new one. I is the local's register or
// slot, OP the operation. `move?` is written when both have a register.

const valueRowsBy = `
num N | num d N | d
null | num d 0 | d
local I | slot d I | d
global S | addr d S | d
func S | addr d S | d
load-kept K I | move d I | d
load K p | p; load K d p | d
store-kept K I v | v; move I v | v
store K p v | p; v; store K p v | v
bin OP a b | a; b; OP d a b | d
bin-< OP a b | a; b; slt d a b | d
bin-u< OP a b | a; b; sltu d a b | d
bin-> OP a b | a; b; slt d b a | d
bin-u> OP a b | a; b; sltu d b a | d
bin->= OP a b | a; b; slt t a b; num o 1; xor d t o | d
bin-u>= OP a b | a; b; sltu t a b; num o 1; xor d t o | d
bin-<= OP a b | a; b; slt t b a; num o 1; xor d t o | d
bin-u<= OP a b | a; b; sltu t b a; num o 1; xor d t o | d
bin-== OP a b | a; b; sub t a b; num o 1; sltu d t o | d
bin-!= OP a b | a; b; sub t a b; num o 0; sltu d o t | d
conv K a | a; narrow K d a | d
add-1 N p w | p; w; add d p w | d
add N p w | p; w; num o N; mul s w o; add d p s | d
sub-1 N p w | p; w; sub d p w | d
sub N p w | p; w; num o N; mul s w o; sub d p s | d
plus-1 N w p | w; p; add d p w | d
plus N w p | w; p; num o N; mul s w o; add d p s | d
dist-1 N a b | a; b; sub t a b | t
dist N a b | a; b; sub t a b; num o N; div d t o | d
if c x y | labels E Z; new r; unless c E; x; move? r x; jump Z; label E; y; move? r y; label Z | r
and a b | labels Z; new r; num r 0; unless a Z; unless b Z; num r 1; label Z | r
or a b | labels Z; new r; num r 1; a; num o 0; if ne a o Z; b; num q 0; if ne b q Z; num r 0; label Z | r
seq a b | a; b | b
copy N a b | a; b; copy a b N | none
update-kept-small K M OP I w | w; move o I; OP t o w; narrow K n t; move I n | old o, new n
update-kept K M OP I w | w; move o I; OP t o w; move I t | old o, new t
update-small K M OP p w | p; w; load K o p; OP t o w; narrow K n t; store K p n | old o, new n
update K M OP p w | p; w; load K o p; OP t o w; store K p t | old o, new t
slide-kept-1 M OP N I w | w; move o I; OP t o w; move I t | old o, new t
slide-kept M OP N I w | w; move o I; num u N; mul s w u; OP t o s; move I t | old o, new t
slide-1 M OP N p w | p; w; load w o p; OP t o w; store w p t | old o, new t
slide M OP N p w | p; w; load w o p; num u N; mul s w u; OP t o s; store w p t | old o, new t
`

const testRowsBy = `
== ne a b
!= eq a b
< ge a b
u< geu a b
>= lt a b
u>= ltu a b
> ge b a
u> geu b a
<= lt b a
u<= ltu b a
`

const stepRowsBy = `
do v | v
when-2 c s | labels E; unless c E; s; label E
when-3 c s t | labels E Z; unless c E; s; jump Z; label E; t; label Z
while c s | labels C B; label C; unless c B; loop B C s; jump C; label B
repeat s c | labels T C B; label T; loop B C s; label C; unless c B; jump T; label B
for i c n s | labels T C B; i; label T; unless c B; loop B C s; label C; n; jump T; label B
return-0 | ret -1
return-1 v | v; ret v
fresh I |
zero N p | p; zero p N
`

type rowBy struct {
	names  []string
	script []string
	result string
}

func tableBy(text string) map[string]rowBy {
	table := map[string]rowBy{}
	for _, line := range strings.Split(strings.TrimSpace(text), "\n") {
		cells := strings.Split(line+" |", "|")
		// The sign | is an operation too, but it stands in no row.
		words := strings.Fields(cells[0])
		script := []string{}
		for _, one := range strings.Split(cells[1], ";") {
			if strings.TrimSpace(one) != "" {
				script = append(script, strings.TrimSpace(one))
			}
		}
		table[words[0]] = rowBy{words[1:], script, strings.TrimSpace(cells[2])}
	}
	return table
}

var (
	valueTableBy = tableBy(valueRowsBy)
	stepTableBy  = tableBy(stepRowsBy)
	testTableBy  = func() map[string][]string {
		tests := map[string][]string{}
		for _, line := range strings.Split(strings.TrimSpace(testRowsBy), "\n") {
			tests[strings.Fields(line)[0]] = strings.Fields(line)[1:]
		}
		return tests
	}()
	aluTableBy  = map[string]string{"+": "add", "-": "sub", "*": "mul", "/": "div", "%": "rem", "u/": "divu", "u%": "remu", "&": "and", "|": "or", "^": "xor", "<<": "sll", ">>": "sra", "u>>": "srl"}
	stepNamesBy = " do when while repeat for switch case default label goto break continue return block fresh zero "
)

type lowLocalBy struct {
	kind string
	kept bool
	home int
}

type lowererBy struct {
	results   map[string]string
	locals    []lowLocalBy
	f         impl.IrFun
	labels    int
	named     map[string]int
	chosen    []map[string]int // of each switch around, the label of each case and of the default
	breaks    []int
	continues []int
}

// lowerBy gives the code of a core, valid or not.
func lowerBy(core string) impl.Ir {
	ir := impl.Ir{}
	results := map[string]string{"putchar": "w", "getchar": "w", "exit": "void"}
	functions := []*coreBy{}
	for _, line := range strings.SplitAfter(core, "\n") {
		if line == "" {
			continue
		}
		x := (&coreReaderBy{line}).one()
		if x.word == "data" {
			ir.Data = append(ir.Data, lowerDataBy(x))
		} else {
			functions = append(functions, x)
			results[x.kids[0].word] = x.kids[1].word
		}
	}
	for _, x := range functions {
		l := &lowererBy{results: results, named: map[string]int{}}
		ir.Funs = append(ir.Funs, l.function(x))
	}
	return ir
}

func lowerDataBy(x *coreBy) impl.IrData {
	d := impl.IrData{Name: x.kids[0].word, Bytes: make([]byte, x.kids[1].n)}
	for _, piece := range x.kids[3:] {
		at := piece.kids[0].n
		switch {
		case piece.word == "text":
			for i := range len(piece.kids[1].word) {
				d.Bytes[at+i] = piece.kids[1].word[i]
			}
		case piece.kids[1].word != "p":
			n := piece.kids[2].n
			for i := range kindsBy[piece.kids[1].word].size {
				d.Bytes[at+i] = byte(n % 256)
				n /= 256
			}
		case piece.kids[2].word != "0":
			d.Refs = append(d.Refs, impl.IrRef{At: at, Sym: piece.kids[2].word, N: piece.kids[3].n})
		}
	}
	return d
}

func (l *lowererBy) function(x *coreBy) impl.IrFun {
	l.f.Name = x.kids[0].word
	at := 2
	sizes := []int{}
	for ; x.kids[at].word == "local"; at++ {
		parts := x.kids[at].kids
		l.locals = append(l.locals, lowLocalBy{kind: parts[2].word, kept: parts[3].n == 0})
		sizes = append(sizes, parts[0].n)
	}
	l.f.Params = x.kids[at].n
	l.f.Regs = l.f.Params
	for i := range l.locals {
		one := &l.locals[i]
		switch {
		case !one.kept:
			one.home = len(l.f.Slots)
			l.f.Slots = append(l.f.Slots, sizes[i])
		case i < l.f.Params:
			one.home = i
		default:
			one.home = l.newReg()
		}
	}
	for i, one := range l.locals[:l.f.Params] {
		if !one.kept {
			d := l.newReg()
			l.put(fmt.Sprintf("slot %d %d", d, one.home))
			l.put(fmt.Sprintf("store %s %d %d", wordKindBy(one.kind), d, i))
		}
	}
	l.step(x.kids[at+1])
	last := -1
	if x.kids[1].word != "void" {
		last = l.newReg()
		l.put(fmt.Sprintf("num %d 0", last))
	}
	l.put(fmt.Sprintf("ret %d", last))
	return l.f
}

func wordKindBy(kind string) string {
	if kind == "p" {
		return "w"
	}
	return kind
}

func (l *lowererBy) newReg() int {
	l.f.Regs++
	return l.f.Regs - 1
}

func (l *lowererBy) newLabel() int {
	l.labels++
	return l.labels - 1
}

func (l *lowererBy) put(text string) { l.f.Code = append(l.f.Code, aStep(text)) }

// isKept says whether a core is the address of a local that is kept in a register.
func (l *lowererBy) isKept(x *coreBy) bool { return x.word == "local" && l.locals[x.kids[0].n].kept }

// rowOf names the row of a core.
func (l *lowererBy) rowOf(x *coreBy) string {
	name := x.word
	switch x.word {
	case "load", "store":
		if l.isKept(x.kids[1]) {
			name += "-kept"
		}
	case "bin":
		if aluTableBy[x.kids[0].word] == "" {
			name += "-" + x.kids[0].word
		}
	case "pcmp":
		return "bin-" + signBy(x)
	case "add", "sub", "plus", "dist":
		if x.kids[0].n == 1 {
			name += "-1"
		}
	case "update":
		if l.isKept(x.kids[3]) {
			name += "-kept"
		}
		if kindsBy[x.kids[0].word].size < 4 {
			name += "-small"
		}
	case "slide":
		if l.isKept(x.kids[3]) {
			name += "-kept"
		}
		if x.kids[2].n == 1 {
			name += "-1"
		}
	case "when", "return":
		name += fmt.Sprint("-", len(x.kids))
	}
	return name
}

// signBy gives the sign of a comparison, with a u in front for pointers that are held against each other by an order.
func signBy(x *coreBy) string {
	sign := x.kids[0].word
	if x.word == "pcmp" && sign != "==" && sign != "!=" {
		sign = "u" + sign
	}
	return sign
}

// sceneBy is what the names of a row stand for.
type sceneBy struct {
	parts  map[string]*coreBy
	labels map[string]int
	regs   map[string]int
}

func (l *lowererBy) play(row rowBy, x *coreBy) sceneBy {
	s := sceneBy{map[string]*coreBy{}, map[string]int{}, map[string]int{}}
	for i, name := range row.names {
		s.parts[name] = x.kids[i]
	}
	for _, line := range row.script {
		words := strings.Fields(line)
		switch {
		case words[0] == "labels":
			for _, name := range words[1:] {
				s.labels[name] = l.newLabel()
			}
		case words[0] == "new":
			s.regs[words[1]] = l.newReg()
		case words[0] == "unless":
			l.unless(s.parts[words[1]], s.labels[words[2]])
		case words[0] == "loop":
			l.breaks, l.continues = append(l.breaks, s.labels[words[1]]), append(l.continues, s.labels[words[2]])
			l.step(s.parts[words[3]])
			l.breaks, l.continues = l.breaks[:len(l.breaks)-1], l.continues[:len(l.continues)-1]
		case len(words) == 1 && s.parts[words[0]] != nil:
			if part := s.parts[words[0]]; strings.Contains(stepNamesBy, " "+part.word+" ") {
				l.step(part)
			} else {
				s.regs[words[0]] = l.value(part)
			}
		case words[0] == "move?":
			if s.regs["x"] >= 0 && s.regs[words[2]] >= 0 {
				l.put(fmt.Sprintf("move %d %d", s.regs[words[1]], s.regs[words[2]]))
			}
		default:
			l.written(s, words)
		}
	}
	return s
}

// written puts a step with the names in it replaced.
func (l *lowererBy) written(s sceneBy, words []string) {
	out := []string{}
	for i, word := range words {
		reg, isReg := s.regs[word]
		label, isLabel := s.labels[word]
		part := s.parts[word]
		switch {
		case word == "w" && i == 1:
			// The kind of a load or store.
		case word == "OP":
			word = aluTableBy[part.word]
		case word == "K":
			word = wordKindBy(part.word)
		case word == "I" && part.word == "local":
			word = fmt.Sprint(l.locals[part.kids[0].n].home)
		case word == "I":
			word = fmt.Sprint(l.locals[part.n].home)
		case isReg:
			word = fmt.Sprint(reg)
		case isLabel:
			word = fmt.Sprint(label)
		case part != nil:
			word = part.word
		case i > 0 && len(word) == 1 && word >= "a":
			s.regs[word] = l.newReg()
			word = fmt.Sprint(s.regs[word])
		}
		out = append(out, word)
	}
	l.put(strings.Join(out, " "))
}

func (l *lowererBy) value(x *coreBy) int {
	if x.word == "call" || x.word == "callp" {
		return l.call(x)
	}
	row, ok := valueTableBy[l.rowOf(x)]
	if !ok {
		panic("no row for " + l.rowOf(x))
	}
	s := l.play(row, x)
	if x.word == "copy" || x.word == "if" && s.regs["x"] < 0 {
		return -1
	}
	for _, choice := range strings.Split(row.result, ", ") {
		mode, name, isChoice := strings.Cut(choice, " ")
		if !isChoice {
			return s.regs[mode]
		}
		if s.parts["M"].word == mode {
			return s.regs[name]
		}
	}
	panic("no register for " + x.word)
}

func (l *lowererBy) call(x *coreBy) int {
	regs := []string{}
	for _, kid := range x.kids[1:] {
		regs = append(regs, strconv.Itoa(l.value(kid)))
	}
	callee := x.kids[0].word
	text, void := "call # "+callee, l.results[callee] == "void"
	if x.word == "callp" {
		text, void = "callr #", strings.HasPrefix(callee, "void(")
	}
	d := -1
	if !void {
		d = l.newReg()
	}
	l.put(strings.Replace(text, "#", strconv.Itoa(d), 1) + " " + strings.Join(regs, " "))
	return d
}

func (l *lowererBy) unless(c *coreBy, label int) {
	if c.word == "bin" || c.word == "pcmp" {
		if row := testTableBy[signBy(c)]; row != nil {
			regs := map[string]int{}
			regs["a"] = l.value(c.kids[1])
			regs["b"] = l.value(c.kids[2])
			l.put(fmt.Sprintf("if %s %d %d %d", row[0], regs[row[1]], regs[row[2]], label))
			return
		}
	}
	v := l.value(c)
	o := l.newReg()
	l.put(fmt.Sprintf("num %d 0", o))
	l.put(fmt.Sprintf("if eq %d %d %d", v, o, label))
}

func (l *lowererBy) step(x *coreBy) {
	switch x.word {
	case "block":
		for _, kid := range x.kids {
			l.step(kid)
		}
	case "switch":
		l.choose(x)
	case "case":
		l.put(fmt.Sprint("label ", l.chosen[len(l.chosen)-1][x.kids[0].word]))
		l.step(x.kids[1])
	case "default":
		l.put(fmt.Sprint("label ", l.chosen[len(l.chosen)-1]["default"]))
		l.step(x.kids[0])
	case "label", "goto":
		name := x.kids[0].word
		if _, ok := l.named[name]; !ok {
			l.named[name] = l.newLabel()
		}
		if x.word == "goto" {
			l.put(fmt.Sprint("jump ", l.named[name]))
			return
		}
		l.put(fmt.Sprint("label ", l.named[name]))
		l.step(x.kids[1])
	case "break":
		l.put(fmt.Sprint("jump ", l.breaks[len(l.breaks)-1]))
	case "continue":
		l.put(fmt.Sprint("jump ", l.continues[len(l.continues)-1]))
	default:
		row, ok := stepTableBy[l.rowOf(x)]
		if !ok {
			panic("no row for " + l.rowOf(x))
		}
		l.play(row, x)
	}
}

func (l *lowererBy) choose(x *coreBy) {
	behind := l.newLabel()
	w := l.value(x.kids[0])
	labels, found := map[string]int{}, false
	var look func(s *coreBy)
	look = func(s *coreBy) {
		switch s.word {
		case "switch":
			return
		case "default":
			found = true
		case "case":
			n := s.kids[0].word
			labels[n] = l.newLabel()
			o := l.newReg()
			l.put(fmt.Sprintf("num %d %s", o, n))
			l.put(fmt.Sprintf("if eq %d %d %d", w, o, labels[n]))
		}
		for _, kid := range s.kids {
			if strings.Contains(stepNamesBy, " "+kid.word+" ") {
				look(kid)
			}
		}
	}
	look(x.kids[1])
	if found {
		labels["default"] = l.newLabel()
		l.put(fmt.Sprint("jump ", labels["default"]))
	} else {
		l.put(fmt.Sprint("jump ", behind))
	}
	l.chosen, l.breaks = append(l.chosen, labels), append(l.breaks, behind)
	l.step(x.kids[1])
	l.chosen, l.breaks = l.chosen[:len(l.chosen)-1], l.breaks[:len(l.breaks)-1]
	l.put(fmt.Sprint("label ", behind))
}
