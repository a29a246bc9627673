package tests

import (
	"fmt"
	"strings"
	"testing"
)

// setting is steps that set the registers from one up to, but not including, another.
func setting(from, to int) string {
	text := strings.Builder{}
	for reg := from; reg < to; reg++ {
		fmt.Fprintf(&text, "num %d 1;", reg)
	}
	return text.String()
}

// using is steps that use registers, one each.
func using(regs ...int) string {
	text := strings.Builder{}
	for _, reg := range regs {
		fmt.Fprintf(&text, "zero %d 1;", reg)
	}
	return text.String()
}

// upTo is the numbers from one up to, but not including, another; with without left out.
func upTo(from, to int, without ...int) []int {
	list := []int{}
next:
	for n := from; n < to; n++ {
		for _, not := range without {
			if n == not {
				continue next
			}
		}
		list = append(list, n)
	}
	return list
}

func backwards(list []int) []int {
	turned := []int{}
	for i := range list {
		turned = append(turned, list[len(list)-1-i])
	}
	return turned
}

const aCall = "call -1 f;"

const (
	allRegs  = "t3 t4 t5 t6 s1 s2 s3 s4 s5 s6 s7 s8 s9 s10 s11 s0"
	keptRegs = "s1 s2 s3 s4 s5 s6 s7 s8 s9 s10 s11 s0"
)

// The functions of the document's example.
func TestAllotExample(t *testing.T) {
	ir := lowered(t, "int f(int a) { if (a < 3) return 1; else a--; return a; }\nint main(void) { return f(9); }\n")
	f := ir.Funs[0]
	f.Slots = []int{5, 8}
	steps := strings.ReplaceAll(stepsText(f.Code), "; ", ";")
	livesAre(t, 1, 9, steps, "0,0 1,0 1 2,,3,0,0,0,0 4,4 5,6,0,0,7,,8")
	spansAre(t, 1, 9, steps, "-1-12 0-2 1-2 3-4 7-9 8-9 9-10 12-13 14-15")
	placesAre(t, 1, 9, steps, "t3 t4 t5 t4 t4 t5 t6 t4 t3")
	steps = stepsText(ir.Funs[1].Code)
	spansAre(t, 0, 3, steps, "0-1 1-2 3-4")
	placesAre(t, 0, 3, steps, "t3 t4 t3")
}

// Each machine register in the order in which they are taken.
func TestAllotOrder(t *testing.T) {
	for n := 1; n <= 16; n++ {
		names := strings.Join(strings.Fields(allRegs)[:n], " ")
		placesAre(t, 0, n, setting(0, n)+using(upTo(0, n)...)+"ret -1", names)
		placesAre(t, 0, n, setting(0, n)+using(backwards(upTo(0, n))...)+"ret -1", names)
	}
	for n := 1; n <= 12; n++ {
		names := strings.Join(strings.Fields(keptRegs)[:n], " ")
		placesAre(t, 0, n, setting(0, n)+aCall+using(upTo(0, n)...)+"ret -1", names)
		placesAre(t, 0, n, setting(0, n)+aCall+using(backwards(upTo(0, n))...)+"ret -1", names)
	}
	// With and without Cross by turns; what stands nowhere has nothing.
	placesAre(t, 0, 7, "num 0 1; num 1 1; num 2 1;"+using(1)+aCall+"num 3 1;"+using(0, 2, 3)+"num 5 1;"+aCall+using(5)+"ret -1", "s1 t3 s2 t3 none s1 none")
	placesAre(t, 0, 3, "ret -1", "none none none")
	placesAre(t, 3, 3, "ret -1", "none none none")
	placesAre(t, 0, 0, "ret -1", "")
	// What is set and never used, and what is used and never set.
	placesAre(t, 0, 2, "num 0 1; num 1 1; ret -1", "t3 t3")
	placesAre(t, 0, 2, "zero 1 1; zero 0 1; ret -1", "t3 t4")
}

// By From, those with one From by their number.
func TestAllotTurns(t *testing.T) {
	for _, c := range []struct {
		params, regs int
		steps, want  string
	}{
		{0, 4, "call -1 f 3 2 1 0; ret -1", "t3 t4 t5 t6"}, {2, 4, "call -1 f 3 2 1 0; ret -1", "t3 t4 t5 t6"}, {0, 4, "num 3 1; num 2 1; num 1 1; num 0 1; call -1 f 0 1 2 3; ret -1", "t6 t5 t4 t3"},
		// A param that is set by the first step comes behind one that is live before it.
		{2, 2, "num 0 1; add 0 0 1; ret 0", "t4 t3"}, {0, 2, "num 0 1; add 0 0 1; ret 0", "t3 t4"}, {1, 3, "move 1 2; num 0 1; add 1 1 0; ret 1", "t4 t3 t4"},
		// Many with one From, at steps that nobody comes to.
		{0, 6, "num 5 1; ret 5; label 0; add 3 0 4; add 3 3 2; ret 1", "t3 t4 t5 s1 t6 t3"}, {0, 3, "ret -1; call -1 f 2 1 0; ret -1", "t3 t4 t5"},
	} {
		placesAre(t, c.params, c.regs, c.steps, c.want)
	}
}

func TestAllotGivesBack(t *testing.T) {
	for _, c := range []struct {
		params, regs int
		steps, want  string
	}{
		// To just below the next one's From, and at it.
		{0, 2, "num 0 1; zero 0 1; num 1 1; zero 1 1; ret -1", "t3 t3"}, {0, 2, "num 0 1; move 1 0; ret 1", "t3 t4"}, {0, 3, "num 0 1; move 1 0; move 2 1; ret 2", "t3 t4 t3"}, {1, 2, "move 1 0; ret 1", "t3 t4"}, {1, 2, "zero 0 1; num 1 1; ret 1", "t3 t3"}, {2, 2, "zero 0 1; ret 1", "t3 t4"}, {0, 2, "num 0 1; num 1 1; ret 1", "t3 t3"},
		// Those that are free are taken in their order, however they came back.
		{0, 10, setting(0, 6) + using(4, 1, 5, 2) + setting(6, 10) + using(6, 7, 8, 9, 0, 3) + "ret -1", "t3 t4 t5 t6 s1 s2 t4 t5 s1 s2"}, {0, 10, setting(0, 6) + using(2, 5, 1, 4) + setting(6, 10) + using(9, 8, 7, 6, 3, 0) + "ret -1", "t3 t4 t5 t6 s1 s2 t4 t5 s1 s2"},
		// One with Cross passes over those that calls do not keep; one without takes what it gave back.
		{0, 4, setting(0, 2) + aCall + using(0) + "num 2 1;" + aCall + using(2, 1) + "num 3 1;" + using(3) + "ret -1", "s1 s2 s1 t3"}, {0, 6, setting(0, 4) + "num 4 1;" + using(0, 1, 2, 3) + "num 5 1;" + aCall + using(5, 4) + "ret -1", "t3 t4 t5 t6 s1 s2"},
		{0, 7, setting(0, 5) + using(4) + "num 5 1;" + aCall + using(5) + "num 6 1;" + using(6) + "ret -1", "t3 t3 t3 t3 t3 s1 t3"},
		// All given back at once, and taken again.
		{0, 33, setting(0, 16) + using(upTo(0, 16)...) + setting(16, 32) + using(upTo(16, 32)...) + "num 32 1; ret 32", allRegs + " " + allRegs + " t3"},
	} {
		placesAre(t, c.params, c.regs, c.steps, c.want)
	}
}

// changedIn is the names of machine registers, some of them changed: 5=2 is the spill 2 in place of the fifth, counted from 0.
func changedIn(names string, changes ...string) string {
	list := strings.Fields(names)
	for _, change := range changes {
		at, to, _ := strings.Cut(change, "=")
		n := 0
		fmt.Sscan(at, &n)
		list[n] = to
	}
	return strings.Join(list, " ")
}

// No usable one is free.
func TestAllotTakesBack(t *testing.T) {
	for k := range 16 {
		name := strings.Fields(allRegs)[k]
		others := using(upTo(0, 16, k)...)
		// The one with the greatest To gives way to one with a smaller To, not to one with the same or a greater.
		placesAre(t, 0, 17, setting(0, 17)+others+using(16, k)+"ret -1", changedIn(allRegs, fmt.Sprint(k, "=0"))+" "+name)
		placesAre(t, 0, 17, setting(0, 17)+others+fmt.Sprintf("copy %d 16 1; ret -1", k), allRegs+" 0")
		placesAre(t, 0, 17, setting(0, 17)+others+using(k, 16)+"ret -1", allRegs+" 0")
		// Two have the greatest To: the one with the greater number, whatever it has.
		if k < 15 {
			rest := using(upTo(0, 17, k, k+1)...)
			want := changedIn(allRegs, fmt.Sprint(k+1, "=0")) + " " + strings.Fields(allRegs)[k+1]
			placesAre(t, 0, 17, setting(0, 17)+rest+fmt.Sprintf("copy %d %d 1; ret -1", k, k+1), want)
			placesAre(t, 0, 17, setting(0, 17)+rest+fmt.Sprintf("copy %d %d 1; ret -1", k+1, k), want)
		}
	}
	loop := "label 0;" + using(upTo(0, 16)...) + "if eq 0 0 0; ret -1"
	backSet := ""
	for _, reg := range backwards(upTo(0, 16)) {
		backSet += fmt.Sprintf("num %d 1;", reg)
	}
	for _, c := range []struct {
		regs        int
		steps, want string
	}{
		// All sixteen have one To: greater than that of the next, the same, and smaller.
		{17, setting(0, 17) + using(16) + loop, changedIn(allRegs, "15=0") + " s0"}, {17, backSet + "num 16 1;" + using(16) + loop, "s0 s11 s10 s9 s8 s7 s6 s5 s4 s3 s2 s1 t6 t5 t4 0 t3"},
		{17, setting(0, 17) + strings.Replace(loop, "label 0;", "label 0; zero 16 1;", 1), allRegs + " 0"}, {17, setting(0, 17) + strings.Replace(loop, "ret -1", "ret 16", 1), allRegs + " 0"},
		// One after the other gives way; spills are numbered as they are given.
		{19, setting(0, 19) + using(backwards(upTo(0, 19))...) + "ret -1", changedIn(allRegs, "0=0", "1=1", "2=2") + " t3 t4 t5"}, {19, setting(0, 19) + using(upTo(0, 19)...) + "ret -1", allRegs + " 0 1 2"},
		{19, setting(0, 19) + using(upTo(0, 16, 4, 9)...) + using(16, 18, 4, 17, 9) + "ret -1", changedIn(allRegs, "9=0", "4=2") + " s6 1 s1"}, {19, setting(0, 19) + using(upTo(0, 16, 4, 9)...) + using(17, 4, 16, 18, 9) + "ret -1", changedIn(allRegs, "9=0") + " 1 s6 2"},
		// What was taken back is given back by the one that took it, not by the one that had it.
		{18, setting(0, 17) + using(16) + "num 17 1;" + using(17) + using(backwards(upTo(0, 16))...) + "ret -1", changedIn(allRegs, "0=0") + " t3 t3"}, {19, setting(0, 17) + using(backwards(upTo(0, 17))...) + "num 17 1; num 18 1; add 17 17 18; ret 17", changedIn(allRegs, "0=0") + " t3 t3 t4"},
	} {
		placesAre(t, 0, c.regs, c.steps, c.want)
	}
}

func TestAllotTakesBackAcrossCalls(t *testing.T) {
	for k := range 12 {
		name := strings.Fields(keptRegs)[k]
		others := using(upTo(0, 12, k)...)
		// x28 to x31 are free, but not for one with Cross.
		placesAre(t, 0, 13, setting(0, 13)+aCall+others+using(12, k)+"ret -1", changedIn(keptRegs, fmt.Sprint(k, "=0"))+" "+name)
		placesAre(t, 0, 13, setting(0, 13)+aCall+others+fmt.Sprintf("copy %d 12 1; ret -1", k), keptRegs+" 0")
		placesAre(t, 0, 13, setting(0, 13)+aCall+others+using(k, 12)+"ret -1", keptRegs+" 0")
		// One without Cross takes from one with it, when all sixteen are taken.
		placesAre(t, 0, 17, setting(0, 12)+aCall+setting(12, 17)+using(upTo(12, 17)...)+others+using(k)+"ret -1", changedIn(keptRegs, fmt.Sprint(k, "=0"))+" t3 t4 t5 t6 "+name)
		if k < 11 {
			rest := using(upTo(0, 13, k, k+1)...)
			placesAre(t, 0, 13, setting(0, 13)+aCall+rest+fmt.Sprintf("copy %d %d 1; ret -1", k+1, k), changedIn(keptRegs, fmt.Sprint(k+1, "=0"))+" "+strings.Fields(keptRegs)[k+1])
		}
	}
	for _, c := range []struct {
		regs        int
		steps, want string
	}{
		// The one with the greatest To of all has one of x28 to x31, and does not come into it.
		{14, setting(0, 12) + aCall + setting(12, 14) + using(upTo(0, 13)...) + aCall + using(13) + "ret -1", keptRegs + " t3 0"}, {14, setting(0, 12) + aCall + setting(12, 14) + using(upTo(0, 12, 6)...) + using(12) + aCall + using(13, 6) + "ret -1", changedIn(keptRegs, "6=0") + " t3 s7"},
		{14, setting(0, 12) + aCall + setting(12, 14) + using(upTo(0, 12, 6)...) + using(12) + aCall + "copy 13 6 1; ret -1", keptRegs + " t3 0"},
		// Kept ones that came back go to those with Cross and to those without.
		{16, setting(0, 12) + aCall + using(3, 8) + setting(12, 14) + aCall + using(12, 13) + using(upTo(0, 12, 3, 8)...) + "ret -1", "s1 s2 s3 s4 s5 s6 s7 s8 s9 s10 s11 s0 s4 s9 none none"},
	} {
		placesAre(t, 0, c.regs, c.steps, c.want)
	}
}

// Hundreds of registers at once.
func TestAllotOfMany(t *testing.T) {
	for _, n := range []int{17, 64, 65, 300, 999} {
		names, kept := strings.Fields(allRegs), strings.Fields(keptRegs)
		last, first, crossing := []string{}, []string{}, []string{}
		for i := range n {
			// Each later one stands longer: it spills itself.
			last = append(last, fmt.Sprint(i-16))
			// Each later one stands shorter: the first of those that have one gives way.
			first = append(first, fmt.Sprint(i))
			crossing = append(crossing, fmt.Sprint(i))
			if i < 16 {
				last[i] = names[i]
			}
			if i >= n-16 {
				first[i] = names[i%16]
			}
			if i >= n-12 {
				crossing[i] = kept[i%12]
			}
		}
		placesAre(t, 0, n, setting(0, n)+using(upTo(0, n)...)+"ret -1", strings.Join(last, " "))
		placesAre(t, 0, n, setting(0, n)+using(backwards(upTo(0, n))...)+"ret -1", strings.Join(first, " "))
		placesAre(t, 0, n, setting(0, n)+aCall+using(backwards(upTo(0, n))...)+"ret -1", strings.Join(crossing, " "))
	}
}
