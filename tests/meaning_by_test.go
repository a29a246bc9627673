package tests

import (
	"fmt"
	"strconv"
	"strings"

	"loop.example/s01681/impl"
)

// A second reading of the document's chapter on what a program means: the core is read from Check's text, the steps of a
// function are laid out as a row of orders with jumps among them, memory is rows of numbers, and each pointer that was
// written there has a number.

// coreBy is what stands in brackets, or a single part with no kids.
type coreBy struct {
	word string
	n    int
	kids []*coreBy
}

type coreReaderBy struct{ rest string }

// one reads what comes next.
func (r *coreReaderBy) one() *coreBy {
	if !strings.HasPrefix(r.rest, "(") {
		return r.atom()
	}
	r.rest = r.rest[1:]
	x := r.atom()
	for r.rest[0] == ' ' {
		r.rest = r.rest[1:]
		x.kids = append(x.kids, r.one())
	}
	r.rest = r.rest[1:]
	return x
}

// atom reads a word, a number, a sign or a text. A signature has brackets of its own, with a blank or bracket behind.
func (r *coreReaderBy) atom() *coreBy {
	if r.rest[0] == '"' {
		quoted, _ := strconv.QuotedPrefix(r.rest)
		r.rest = r.rest[len(quoted):]
		text, _ := strconv.Unquote(quoted)
		return &coreBy{word: text}
	}
	end := strings.IndexAny(r.rest, " ()")
	if r.rest[end] == '(' {
		end += strings.Index(r.rest[end:], ")") + 1
	}
	word := r.rest[:end]
	r.rest = r.rest[end:]
	n, _ := strconv.Atoi(word)
	return &coreBy{word: word, n: n}
}

// programBy is a source made ready to be run more than once.
type programBy struct {
	datas     []*coreBy
	functions map[string]*functionBy
}

type functionBy struct {
	name, result, signature string
	kinds                   []string
	sizes                   []int
	params                  int
	orders                  []orderBy
	labels                  map[string]targetBy
}

// orderBy is one of: count n; value; unless the value go to n; go to n; goto a label; switch; return; fresh n; zero.
type orderBy struct {
	do      string
	n       int
	at      *coreBy
	name    string
	targets []targetBy
}

// targetBy is where a jump goes on, and how many steps are begun on the way.
type targetBy struct {
	word  string // a case's number, or default
	place int
	deep  int
}

func readBy(core string) *programBy {
	p := &programBy{functions: map[string]*functionBy{}}
	for _, line := range strings.SplitAfter(core, "\n") {
		if line == "" {
			continue
		}
		x := (&coreReaderBy{line}).one()
		if x.word == "data" {
			p.datas = append(p.datas, x)
			continue
		}
		f := &functionBy{name: x.kids[0].word, result: x.kids[1].word, labels: map[string]targetBy{}}
		at := 2
		for ; x.kids[at].word == "local"; at++ {
			f.sizes = append(f.sizes, x.kids[at].kids[0].n)
			f.kinds = append(f.kinds, x.kids[at].kids[2].word)
		}
		f.params = x.kids[at].n
		f.signature = f.result + "(" + strings.Join(f.kinds[:f.params], ",") + ")"
		l := &layerBy{f: f}
		l.step(x.kids[at+1])
		f.orders = append(f.orders, orderBy{do: "return"})
		p.functions[f.name] = f
	}
	return p
}

// layerBy lays out the steps of a function. Jumps to places that are not known yet are put right behind.
type layerBy struct {
	f         *functionBy
	deep      int
	breaks    [][]int
	continues [][]int
	choices   []*choiceBy
}

type choiceBy struct {
	deep    int
	targets []targetBy
}

func (l *layerBy) here() int { return len(l.f.orders) }

func (l *layerBy) put(o orderBy) int {
	l.f.orders = append(l.f.orders, o)
	return l.here() - 1
}

func (l *layerBy) land(orders ...int) {
	for _, at := range orders {
		l.f.orders[at].n = l.here()
	}
}

func (l *layerBy) breakable(s *coreBy) []int {
	l.breaks = append(l.breaks, nil)
	l.step(s)
	at := len(l.breaks) - 1
	out := l.breaks[at]
	l.breaks = l.breaks[:at]
	return out
}

func (l *layerBy) loop(s *coreBy) (breaks, continues []int) {
	l.continues = append(l.continues, nil)
	breaks = l.breakable(s)
	at := len(l.continues) - 1
	continues = l.continues[at]
	l.continues = l.continues[:at]
	return breaks, continues
}

func (l *layerBy) step(s *coreBy) {
	l.deep++
	defer func() { l.deep-- }()
	if s.word != "fresh" && s.word != "zero" {
		l.put(orderBy{do: "count", n: 1})
	}
	switch s.word {
	case "do":
		l.put(orderBy{do: "value", at: s.kids[0]})
	case "block":
		for _, kid := range s.kids {
			l.step(kid)
		}
	case "fresh":
		l.put(orderBy{do: "fresh", n: s.kids[0].n})
	case "zero":
		l.put(orderBy{do: "zero", n: s.kids[0].n, at: s.kids[1]})
	case "return":
		if len(s.kids) > 0 {
			l.put(orderBy{do: "return", at: s.kids[0]})
		} else {
			l.put(orderBy{do: "return"})
		}
	case "when":
		over := l.put(orderBy{do: "unless", at: s.kids[0]})
		l.step(s.kids[1])
		if len(s.kids) > 2 {
			end := l.put(orderBy{do: "go"})
			l.land(over)
			l.step(s.kids[2])
			over = end
		}
		l.land(over)
	default:
		l.jumpy(s)
	}
}

func (l *layerBy) jumpy(s *coreBy) {
	switch s.word {
	case "while":
		top := l.here()
		over := l.put(orderBy{do: "unless", at: s.kids[0]})
		breaks, continues := l.loop(s.kids[1])
		l.land(continues...)
		l.put(orderBy{do: "go", n: top})
		l.land(append(breaks, over)...)
	case "repeat":
		top := l.here()
		breaks, continues := l.loop(s.kids[0])
		l.land(continues...)
		over := l.put(orderBy{do: "unless", at: s.kids[1]})
		l.put(orderBy{do: "go", n: top})
		l.land(append(breaks, over)...)
	case "for":
		l.step(s.kids[0])
		top := l.here()
		over := l.put(orderBy{do: "unless", at: s.kids[1]})
		breaks, continues := l.loop(s.kids[3])
		l.land(continues...)
		l.step(s.kids[2])
		l.put(orderBy{do: "go", n: top})
		l.land(append(breaks, over)...)
	case "switch":
		l.choices = append(l.choices, &choiceBy{deep: l.deep})
		at := l.put(orderBy{do: "switch", at: s.kids[0]})
		breaks := l.breakable(s.kids[1])
		l.f.orders[at].targets = l.choices[len(l.choices)-1].targets
		l.choices = l.choices[:len(l.choices)-1]
		l.land(append(breaks, at)...)
	case "case":
		l.chosen(s.kids[0].word, s.kids[1])
	case "default":
		l.chosen("default", s.kids[0])
	case "label":
		l.f.labels[s.kids[0].word] = targetBy{place: l.here(), deep: l.deep}
		l.step(s.kids[1])
	case "goto":
		l.put(orderBy{do: "goto", name: s.kids[0].word})
	case "break":
		at := len(l.breaks) - 1
		l.breaks[at] = append(l.breaks[at], l.put(orderBy{do: "go"}))
	case "continue":
		at := len(l.continues) - 1
		l.continues[at] = append(l.continues[at], l.put(orderBy{do: "go"}))
	}
}

func (l *layerBy) chosen(word string, s *coreBy) {
	of := l.choices[len(l.choices)-1]
	of.targets = append(of.targets, targetBy{word, l.here(), l.deep - of.deep})
	l.step(s)
}

// worldBy is a program under way.
type worldBy struct {
	*programBy
	in       string
	fuel     int
	out      impl.Outcome
	under    int
	objects  []*objectBy
	globals  map[string]int
	pointers []addressBy
	numbers  map[addressBy]int
}

type objectBy struct {
	cells []int // -1 is nothing, then the bytes, then the parts of pointer number 0, and so on
	ended bool
}

// addressBy is a function when that has a name, null when the object is 0, which none has as its number.
type addressBy struct {
	function string
	object   int
	offset   int
}

type gotBy struct {
	w int
	p addressBy
}

type endBy struct{ end, value int }

func undefinedUnless(holds bool) {
	if !holds {
		panic(endBy{impl.EndUndefined, 0})
	}
}

func (p *programBy) run(in string, fuel int) (out impl.Outcome) {
	w := &worldBy{programBy: p, in: in, fuel: fuel, objects: []*objectBy{nil}, globals: map[string]int{}, numbers: map[addressBy]int{}}
	defer func() {
		if thrown := recover(); thrown != nil {
			e, ok := thrown.(endBy)
			if !ok {
				panic(thrown)
			}
			out = w.out
			out.End, out.Value = e.end, e.value
		}
	}()
	for _, d := range p.datas {
		w.globals[d.kids[0].word] = len(w.objects)
		w.objects = append(w.objects, &objectBy{cells: make([]int, d.kids[1].n)})
	}
	for _, d := range p.datas {
		for _, piece := range d.kids[3:] {
			w.piece(w.globals[d.kids[0].word], piece)
		}
	}
	panic(endBy{impl.EndExit, w.call("main", nil).w})
}

func (w *worldBy) piece(object int, x *coreBy) {
	at := addressBy{object: object, offset: x.kids[0].n}
	switch {
	case x.word == "text":
		for i := range len(x.kids[1].word) {
			w.objects[object].cells[at.offset+i] = int(x.kids[1].word[i])
		}
	case x.kids[1].word != "p":
		w.write(x.kids[1].word, at, gotBy{w: x.kids[2].n})
	case x.kids[2].word != "0":
		w.write("p", at, gotBy{p: w.named(x.kids[2].word, x.kids[3].n)})
	}
}

func (w *worldBy) named(name string, offset int) addressBy {
	if object, ok := w.globals[name]; ok {
		return addressBy{object: object, offset: offset}
	}
	return addressBy{function: name}
}

func (w *worldBy) count(n int) {
	w.out.Steps = min(w.out.Steps+n, w.fuel+1)
	if w.out.Steps > w.fuel {
		w.out.Steps = w.fuel
		panic(endBy{impl.EndFuel, 0})
	}
}

func quarterBy(size int) int { return size/4 + oneIf(size%4 > 0) }

func (w *worldBy) call(name string, args []gotBy) gotBy {
	f := w.functions[name]
	if w.under >= 1000 {
		panic(endBy{impl.EndFuel, 0})
	}
	for _, size := range f.sizes {
		w.count(quarterBy(size))
	}
	w.under++
	w.out.Depth = max(w.out.Depth, w.under)
	base := len(w.objects)
	for _, size := range f.sizes {
		w.objects = append(w.objects, &objectBy{cells: make([]int, size)})
		w.clear(len(w.objects) - 1)
	}
	for i, arg := range args {
		w.write(f.kinds[i], addressBy{object: base + i}, arg)
	}
	result := w.orders(f, base)
	for i := range f.sizes {
		w.objects[base+i] = &objectBy{ended: true, cells: w.objects[base+i].cells[:0:0]}
	}
	w.under--
	return result
}

func (w *worldBy) clear(object int) {
	for i := range w.objects[object].cells {
		w.objects[object].cells[i] = -1
	}
}

func (w *worldBy) orders(f *functionBy, base int) gotBy {
	for at := 0; ; at++ {
		o := &f.orders[at]
		switch o.do {
		case "count":
			w.count(o.n)
		case "value":
			w.value(o.at, base)
		case "unless":
			if w.value(o.at, base).w == 0 {
				at = o.n - 1
			}
		case "go":
			at = o.n - 1
		case "goto":
			to := f.labels[o.name]
			w.count(to.deep)
			at = to.place - 1
		case "switch":
			at = w.choose(o, strconv.Itoa(w.value(o.at, base).w)) - 1
		case "fresh":
			w.count(1)
			w.count(quarterBy(f.sizes[o.n]))
			w.clear(base + o.n)
		case "zero":
			w.count(1)
			p := w.value(o.at, base).p
			w.count(quarterBy(o.n))
			cells := w.stretch(p, o.n)
			for i := range cells {
				cells[i] = 0
			}
		case "return":
			if o.at == nil {
				return gotBy{}
			}
			return w.value(o.at, base)
		}
	}
}

func (w *worldBy) choose(o *orderBy, word string) int {
	for _, word := range []string{word, "default"} {
		for _, to := range o.targets {
			if to.word == word {
				w.count(to.deep)
				return to.place
			}
		}
	}
	return o.n
}

// stretch gives the cells at a pointer.
func (w *worldBy) stretch(p addressBy, size int) []int {
	undefinedUnless(p.function == "" && p.object != 0 && !w.objects[p.object].ended)
	cells := w.objects[p.object].cells
	undefinedUnless(p.offset <= len(cells)-size)
	return cells[p.offset : p.offset+size]
}

var kindsBy = map[string]struct {
	size int
	of   string
}{"i8": {1, "char"}, "u8": {1, "uchar"}, "i16": {2, "short"}, "u16": {2, "ushort"}, "w": {4, "int"}, "p": {4, ""}}

func (w *worldBy) scalar(kind string, p addressBy) []int {
	cells := w.stretch(p, kindsBy[kind].size)
	undefinedUnless(p.offset&(len(cells)-1) == 0)
	return cells
}

func (w *worldBy) write(kind string, p addressBy, v gotBy) {
	cells := w.scalar(kind, p)
	if kind == "p" && v.p != (addressBy{}) {
		number, ok := w.numbers[v.p]
		if !ok {
			number = len(w.pointers)
			w.numbers[v.p] = number
			w.pointers = append(w.pointers, v.p)
		}
		for i := range cells {
			cells[i] = 256 + 4*number + i
		}
		return
	}
	for i := range cells {
		cells[i] = v.w & 255
		v.w >>= 8
	}
}

func (w *worldBy) read(kind string, p addressBy) gotBy {
	cells := w.scalar(kind, p)
	if kind == "p" && cells[0] != 0 {
		first := cells[0]
		undefinedUnless(first >= 256 && first%4 == 0 && cells[1] == first+1 && cells[2] == first+2 && cells[3] == first+3)
		return gotBy{p: w.pointers[first/4-64]}
	}
	n := 0
	for i, cell := range cells {
		undefinedUnless(cell >= 0 && cell <= 255)
		n += cell << (8 * i)
	}
	undefinedUnless(kind != "p" || n == 0)
	return gotBy{w: narrowBy(plainBy(kindsBy[kind].of), n)}
}

func (w *worldBy) move(p addressBy, far int) gotBy {
	w.stretch(p, 0)
	p.offset += far
	undefinedUnless(p.offset >= 0 && p.offset <= len(w.objects[p.object].cells))
	return gotBy{p: p}
}

func (w *worldBy) value(x *coreBy, base int) gotBy {
	w.count(1)
	switch x.word {
	case "num":
		return gotBy{w: x.kids[0].n}
	case "null":
		return gotBy{}
	case "local":
		return gotBy{p: addressBy{object: base + x.kids[0].n}}
	case "global", "func":
		return gotBy{p: w.named(x.kids[0].word, 0)}
	case "if":
		if w.value(x.kids[0], base).w != 0 {
			return w.value(x.kids[1], base)
		}
		return w.value(x.kids[2], base)
	case "and":
		return gotBy{w: oneIf(w.value(x.kids[0], base).w != 0 && w.value(x.kids[1], base).w != 0)}
	case "or":
		return gotBy{w: oneIf(w.value(x.kids[0], base).w != 0 || w.value(x.kids[1], base).w != 0)}
	}
	parts := map[string]int{"seq": 0, "call": 1, "update": 3, "slide": 3}
	skip, ok := parts[x.word]
	if !ok {
		skip = 1
	}
	values := []gotBy{}
	for _, kid := range x.kids[skip:] {
		values = append(values, w.value(kid, base))
	}
	return w.known(x, values)
}

// known does what is done once all values in a value are known.
func (w *worldBy) known(x *coreBy, v []gotBy) gotBy {
	first, n := "", 0
	if len(x.kids) > 0 {
		first, n = x.kids[0].word, x.kids[0].n
	}
	switch x.word {
	case "load":
		return w.read(first, v[0].p)
	case "store":
		w.write(first, v[0].p, v[1])
		return v[1]
	case "bin":
		word, ok := reckonBy(first, v[0].w, v[1].w)
		undefinedUnless(ok)
		return gotBy{w: word}
	case "conv":
		return gotBy{w: narrowBy(plainBy(kindsBy[first].of), v[0].w)}
	case "add":
		return w.move(v[0].p, n*int(int32(v[1].w)))
	case "plus":
		return w.move(v[1].p, n*int(int32(v[0].w)))
	case "sub":
		return w.move(v[0].p, -n*int(int32(v[1].w)))
	case "dist":
		far := w.between(v[0].p, v[1].p)
		undefinedUnless(far/n*n == far)
		return gotBy{w: int(uint32(far / n))}
	case "pcmp":
		return gotBy{w: oneIf(w.compare(first, v[0].p, v[1].p))}
	case "seq":
		return v[1]
	case "call":
		return w.called(first, v)
	case "callp":
		f := w.functions[v[0].p.function]
		undefinedUnless(f != nil && f.signature == first)
		return w.call(f.name, v[1:])
	case "copy":
		w.count(quarterBy(n))
		w.copy(n, v[0].p, v[1].p)
		return gotBy{}
	case "update":
		old := w.read(first, v[0].p)
		word, ok := reckonBy(x.kids[2].word, old.w, v[1].w)
		undefinedUnless(ok)
		now := gotBy{w: narrowBy(plainBy(kindsBy[first].of), word)}
		w.write(first, v[0].p, now)
		return map[string]gotBy{"old": old, "new": now}[x.kids[1].word]
	case "slide":
		old := w.read("p", v[0].p)
		now := w.move(old.p, x.kids[2].n*int(int32(v[1].w))*map[string]int{"+": 1, "-": -1}[x.kids[1].word])
		w.write("p", v[0].p, now)
		return map[string]gotBy{"old": old, "new": now}[first]
	}
	panic(fmt.Sprintf("no value: %s", x.word))
}

func (w *worldBy) between(p, q addressBy) int {
	w.stretch(p, 0)
	w.stretch(q, 0)
	undefinedUnless(p.object == q.object)
	return p.offset - q.offset
}

func (w *worldBy) compare(op string, p, q addressBy) bool {
	if op != "==" && op != "!=" {
		far := w.between(p, q)
		return far < 0 && strings.Contains(op, "<") || far > 0 && strings.Contains(op, ">") || far == 0 && strings.Contains(op, "=")
	}
	ends := 0
	for _, one := range []addressBy{p, q} {
		if one.object != 0 {
			undefinedUnless(!w.objects[one.object].ended)
			ends += oneIf(one.offset == len(w.objects[one.object].cells))
		}
	}
	undefinedUnless(ends == 0 || p.object == 0 || q.object == 0 || p.object == q.object)
	return (p == q) == (op == "==")
}

func (w *worldBy) copy(n int, p, q addressBy) {
	to, from := w.stretch(p, n), w.stretch(q, n)
	if p.object == q.object {
		far := max(p.offset-q.offset, q.offset-p.offset)
		undefinedUnless(far == 0 || far >= n)
	}
	copy(to, from)
}

func (w *worldBy) called(name string, v []gotBy) gotBy {
	switch name {
	case "putchar":
		undefinedUnless(len(w.out.Out) < 10000)
		w.out.Out = append(w.out.Out, byte(v[0].w))
		return v[0]
	case "getchar":
		if w.in == "" {
			return gotBy{w: 1<<32 - 1}
		}
		b := w.in[0]
		w.in = w.in[1:]
		return gotBy{w: int(b)}
	case "exit":
		panic(endBy{impl.EndExit, v[0].w})
	}
	return w.call(name, v)
}
