package tests

import (
	"slices"
	"strings"

	"loop.example/s01681/impl"
)

// A second reading of chapter 11, word by word: no bits, no heap, everything found again for each register.

// plainRowsBy are the rows of the table for a function by itself, where names mean nothing.
var plainRowsBy = rowsOf(strings.NewReplacer("Sym:name", "Sym", "Sym:callee", "Sym", "Args:same", "Args:few").Replace(stepRows))

// plainFunBy gives what is wrong with a function, or nothing.
func plainFunBy(f impl.IrFun) string {
	return irFunBy(plainRowsBy, f, impl.Ir{}, nil)
}

// usesBy and setsBy give the registers in the fields that the table has for a step.
func usesBy(in impl.IrIns) []int {
	regs := []int{}
	for _, part := range plainRowsBy[in.Op] {
		switch part {
		case "A":
			regs = append(regs, in.A)
		case "A?":
			if in.A != -1 {
				regs = append(regs, in.A)
			}
		case "B":
			regs = append(regs, in.B)
		case "Args:few":
			regs = append(regs, in.Args...)
		}
	}
	return regs
}

func setsBy(in impl.IrIns) []int {
	switch field := plainRowsBy[in.Op][0]; {
	case field == "D", field == "D?" && in.D != -1:
		return []int{in.D}
	}
	return nil
}

// goesOnBy gives where each step goes on.
func goesOnBy(code []impl.IrIns) [][]int {
	labels := map[int]int{}
	for i, in := range code {
		if in.Op == 11 {
			labels[in.N] = i
		}
	}
	next := make([][]int, len(code))
	for i, in := range code {
		switch in.Op {
		case 12:
			next[i] = []int{labels[in.N]}
		case 13:
			next[i] = []int{i + 1, labels[in.N]}
		case 14:
		default:
			next[i] = []int{i + 1}
		}
	}
	return next
}

// liveTableBy says of each register before which steps it is live: the sets grow from nothing, until no step asks for more.
func liveTableBy(f impl.IrFun) [][]bool {
	next := goesOnBy(f.Code)
	uses, sets := make([][]int, len(f.Code)), make([][]int, len(f.Code))
	for i, in := range f.Code {
		uses[i], sets[i] = usesBy(in), setsBy(in)
	}
	table := make([][]bool, f.Regs)
	for reg := range table {
		live := make([]bool, len(f.Code))
		for more := true; more; {
			more = false
			for i := len(f.Code) - 1; i >= 0; i-- {
				is := slices.Contains(uses[i], reg)
				if !is && !slices.Contains(sets[i], reg) {
					is = slices.ContainsFunc(next[i], func(to int) bool { return live[to] })
				}
				more = more || is != live[i]
				live[i] = is
			}
		}
		table[reg] = live
	}
	return table
}

func liveBy(f impl.IrFun) [][]int {
	lists := make([][]int, len(f.Code))
	for reg, live := range liveTableBy(f) {
		for i, is := range live {
			if is {
				lists[i] = append(lists[i], reg)
			}
		}
	}
	return lists
}

func spansBy(f impl.IrFun) []impl.Span {
	spans := []impl.Span{}
	for reg, live := range liveTableBy(f) {
		stands := []int{}
		for i, in := range f.Code {
			if live[i] || slices.Contains(setsBy(in), reg) {
				stands = append(stands, i)
			}
		}
		span := impl.Span{From: 0, To: -1}
		if len(stands) > 0 {
			span.From, span.To = slices.Min(stands), slices.Max(stands)
		}
		if reg < f.Params && live[0] {
			span.From = -1
		}
		for i := span.From + 1; i < span.To; i++ {
			span.Cross = span.Cross || f.Code[i].Op == 9 || f.Code[i].Op == 10
		}
		spans = append(spans, span)
	}
	return spans
}

// allotBy goes through the registers as the document tells it.
func allotBy(spans []impl.Span) []impl.Place {
	places := make([]impl.Place, len(spans))
	turn := []int{}
	for reg, span := range spans {
		places[reg].Spill = -1
		if span.To >= 0 {
			turn = append(turn, reg)
		}
	}
	slices.SortFunc(turn, func(a, b int) int {
		if spans[a].From != spans[b].From {
			return spans[a].From - spans[b].From
		}
		return a - b
	})
	order := []int{28, 29, 30, 31, 9, 18, 19, 20, 21, 22, 23, 24, 25, 26, 27, 8}
	has, spills := map[int]int{}, 0 // who has each machine register
	spill := func(reg int) {
		places[reg] = impl.Place{Reg: 0, Spill: spills}
		spills++
	}
	for _, reg := range turn {
		for machine, owner := range has {
			if spans[owner].To < spans[reg].From {
				delete(has, machine)
			}
		}
		usable := order
		if spans[reg].Cross {
			usable = order[4:]
		}
		take := func(machine int) {
			has[machine] = reg
			places[reg] = impl.Place{Reg: machine, Spill: -1}
		}
		free := slices.IndexFunc(usable, func(machine int) bool { _, taken := has[machine]; return !taken })
		if free >= 0 {
			take(usable[free])
			continue
		}
		looked := usable[0]
		for _, machine := range usable {
			a, b := has[machine], has[looked]
			if spans[a].To > spans[b].To || spans[a].To == spans[b].To && a > b {
				looked = machine
			}
		}
		if owner := has[looked]; spans[owner].To > spans[reg].To {
			take(looked)
			spill(owner)
		} else {
			spill(reg)
		}
	}
	return places
}
