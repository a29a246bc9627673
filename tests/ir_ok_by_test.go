package tests

import (
	"fmt"
	"regexp"
	"slices"
	"strings"

	"loop.example/s01681/impl"
)

// A second reading of when a code is valid: the table of steps as a text, and what is wrong as another.

// Of each Op the fields that it uses; a ? stands behind a register that may be -1, a : ahead of what a part must be.
const stepRows = `1 D N:word
2 D A
3 D A B N:1-18
4 D A N:1-4
5 D A N:1-5
6 A B N:1-5
7 D Sym:name N:0-60000
8 D N:slot
9 D? Sym:callee Args:same
10 D? A Args:few
11 N:0-9223372036854775807
12 N:label
13 A B N:label Sym:test
14 A?
15 A B N:1-60000
16 A N:1-60000`

var (
	irKeyBy    = regexp.MustCompile(`^(break|case|char|continue|default|do|else|enum|for|goto|if|int|return|short|signed|sizeof|struct|switch|typedef|union|unsigned|void|while)$`)
	irNameBy   = regexp.MustCompile(`^[A-Za-z_][A-Za-z0-9_]{0,39}$`)
	textNameBy = regexp.MustCompile(`^\$(0|[1-9][0-9]{0,3})$`)
	irGivenBy  = map[string]int{"putchar": 1, "getchar": 0, "exit": 1}
	irRowsBy   = rowsOf(stepRows)
)

func rowsOf(text string) map[int][]string {
	rows := map[int][]string{}
	for i, row := range strings.Split(text, "\n") {
		rows[i+1] = strings.Fields(row)[1:]
	}
	return rows
}

// irOkBy gives what is wrong with a code first, or nothing.
func irOkBy(ir impl.Ir) string {
	names := map[string]int{} // how often each stands there
	room := 0
	for _, d := range ir.Data {
		names[d.Name]++
		if !textNameBy.MatchString(d.Name) && (!irNameBy.MatchString(d.Name) || irKeyBy.MatchString(d.Name)) {
			return "the name of data " + d.Name
		}
		if len(d.Bytes) == 0 || len(d.Bytes) > 60000 {
			return fmt.Sprint("the size of data ", d.Name)
		}
		room += roundUp(len(d.Bytes), 4)
	}
	for _, f := range ir.Funs {
		names[f.Name]++
		if !irNameBy.MatchString(f.Name) || irKeyBy.MatchString(f.Name) {
			return "the name of function " + f.Name
		}
	}
	for name, count := range names {
		if _, given := irGivenBy[name]; given || count > 1 {
			return "twice " + name
		}
	}
	switch {
	case len(ir.Data) > 500:
		return "too many data"
	case room > 65536:
		return "too much data"
	case len(ir.Funs) == 0 || len(ir.Funs) > 300:
		return "the number of functions"
	case !slices.ContainsFunc(ir.Funs, func(f impl.IrFun) bool { return f.Name == "main" && f.Params == 0 }):
		return "no main"
	}
	for _, d := range ir.Data {
		if wrong := irRefsBy(d, names); wrong != "" {
			return d.Name + ": " + wrong
		}
	}
	for _, f := range ir.Funs {
		if wrong := irFunBy(irRowsBy, f, ir, names); wrong != "" {
			return f.Name + ": " + wrong
		}
	}
	return ""
}

// irRefsBy marks the bytes that Refs lie in.
func irRefsBy(d impl.IrData, names map[string]int) string {
	used := make([]bool, len(d.Bytes))
	last := -1
	for _, ref := range d.Refs {
		if ref.At%4 != 0 || ref.At <= last {
			return fmt.Sprint("the place of a Ref: ", ref.At)
		}
		last = ref.At
		for i := range 4 {
			at := ref.At + i
			if at < 0 || at >= len(used) || used[at] || d.Bytes[at] != 0 {
				return fmt.Sprint("a byte of a Ref: ", at)
			}
			used[at] = true
		}
		if names[ref.Sym] == 0 || ref.N < 0 || ref.N > 60000 {
			return fmt.Sprint("what a Ref is to: ", ref)
		}
	}
	return ""
}

func irFunBy(rows map[int][]string, f impl.IrFun, ir impl.Ir, names map[string]int) string {
	switch {
	case f.Params < 0 || f.Params > 8:
		return "Params"
	case f.Regs < f.Params || f.Regs > 2000:
		return "Regs"
	case len(f.Slots) > 200:
		return "too many slots"
	case len(f.Code) == 0 || len(f.Code) > 8000:
		return "the number of steps"
	case f.Code[len(f.Code)-1].Op != 14:
		return "the last step"
	}
	for _, size := range f.Slots {
		if size < 1 || size > 60000 {
			return "the size of a slot"
		}
	}
	labels := map[int]int{}
	for _, in := range f.Code {
		if in.Op == 11 {
			labels[in.N]++
		}
	}
	for i, in := range f.Code {
		if wrong := stepOkBy(rows[in.Op], in, f, ir, names, labels); wrong != "" {
			return fmt.Sprint("step ", i, ": ", wrong)
		}
	}
	return ""
}

// stepOkBy goes through the fields that a step uses, and takes them away; what is left must be nothing.
func stepOkBy(row []string, in impl.IrIns, f impl.IrFun, ir impl.Ir, names map[string]int, labels map[int]int) string {
	if len(row) == 0 {
		return "no Op"
	}
	left := in
	left.Op = 0
	for _, part := range row {
		field, rule, _ := strings.Cut(part, ":")
		regs := []int{}
		switch field {
		case "D", "D?":
			regs, left.D = []int{in.D}, 0
		case "A", "A?":
			regs, left.A = []int{in.A}, 0
		case "B":
			regs, left.B = []int{in.B}, 0
		case "Args":
			regs, left.Args = in.Args, nil
		case "N":
			left.N = 0
		case "Sym":
			left.Sym = ""
		}
		for _, reg := range regs {
			if (reg < 0 || reg >= f.Regs) && !(reg == -1 && strings.HasSuffix(field, "?")) {
				return fmt.Sprintf("register %d in %s", reg, field)
			}
		}
		if !ruleBy(rule, in, f, ir, names, labels) {
			return part
		}
	}
	if in.Op == 11 && labels[in.N] != 1 {
		return "a label twice"
	}
	if !sameStep(left, impl.IrIns{}) {
		return fmt.Sprintf("beside it %v", left)
	}
	return ""
}

func ruleBy(rule string, in impl.IrIns, f impl.IrFun, ir impl.Ir, names map[string]int, labels map[int]int) bool {
	switch rule {
	case "":
		return true
	case "word":
		return uint64(in.N) < 1<<32
	case "slot":
		return in.N >= 0 && in.N < len(f.Slots)
	case "name":
		return names[in.Sym] > 0
	case "label":
		return labels[in.N] > 0
	case "test":
		return slices.Contains([]string{"eq", "ne", "lt", "ge", "ltu", "geu"}, in.Sym)
	case "few":
		return len(in.Args) <= 8
	case "callee":
		_, given := irGivenBy[in.Sym]
		return given || slices.ContainsFunc(ir.Funs, func(g impl.IrFun) bool { return g.Name == in.Sym })
	case "same":
		for _, g := range ir.Funs {
			if g.Name == in.Sym {
				return len(in.Args) == g.Params
			}
		}
		return len(in.Args) == irGivenBy[in.Sym]
	}
	return inRanges(in.N, rule)
}
