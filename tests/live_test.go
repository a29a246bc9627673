package tests

import (
	"fmt"
	"slices"
	"strings"
	"testing"

	"loop.example/s01681/impl"
)

// What each Op uses and sets: what is live before it when nothing is behind it, and when the registers 0 to 4 are.
func TestLiveOfEachOp(t *testing.T) {
	const five = "call -1 f 0 1 2 3 4"
	for _, c := range []struct{ step, alone, among string }{
		{"num 1 7", "", "0 2 3 4"},
		{"move 1 2", "2", "0 2 3 4"}, {"move 1 1", "1", "0 1 2 3 4"},
		{"add 1 2 3", "2 3", "0 2 3 4"}, {"remu 1 3 2", "2 3", "0 2 3 4"}, {"add 1 1 2", "1 2", "0 1 2 3 4"}, {"add 1 2 1", "1 2", "0 1 2 3 4"}, {"add 1 2 2", "2", "0 2 3 4"}, {"add 1 1 1", "1", "0 1 2 3 4"}, {"add 0 1 2", "1 2", "1 2 3 4"},
		{"narrow i8 1 2", "2", "0 2 3 4"}, {"narrow u16 1 1", "1", "0 1 2 3 4"},
		{"load w 1 2", "2", "0 2 3 4"}, {"load u8 1 1", "1", "0 1 2 3 4"},
		{"store w 1 2", "1 2", "0 1 2 3 4"}, {"store i8 2 1", "1 2", "0 1 2 3 4"}, {"store w 1 1", "1", "0 1 2 3 4"},
		{"addr 1 g 4", "", "0 2 3 4"}, {"slot 1 0", "", "0 2 3 4"},
		{"call 1 f", "", "0 2 3 4"}, {"call -1 f", "", "0 1 2 3 4"}, {"call 1 f 2 3", "2 3", "0 2 3 4"}, {"call 1 f 3 1", "1 3", "0 1 2 3 4"}, {"call -1 f 3 2", "2 3", "0 1 2 3 4"}, {"call 0 f 2 2 2", "2", "1 2 3 4"}, {"call -1 f 4 4", "4", "0 1 2 3 4"}, {"call 1 exit 2", "2", "0 2 3 4"}, {"call 1 getchar", "", "0 2 3 4"},
		{"callr 1 2", "2", "0 2 3 4"}, {"callr -1 2", "2", "0 1 2 3 4"}, {"callr 1 2 3 4", "2 3 4", "0 2 3 4"}, {"callr 1 1", "1", "0 1 2 3 4"}, {"callr 1 2 1", "1 2", "0 1 2 3 4"}, {"callr 0 4 3 3 2", "2 3 4", "1 2 3 4"}, {"callr -1 1 1 1", "1", "0 1 2 3 4"},
		{"label 9", "", "0 1 2 3 4"},
		{"if eq 1 2 8", "1 2", "0 1 2 3 4"}, {"if geu 2 1 8", "1 2", "0 1 2 3 4"}, {"if lt 3 3 8", "3", "0 1 2 3 4"},
		{"copy 1 2 8", "1 2", "0 1 2 3 4"}, {"copy 2 1 8", "1 2", "0 1 2 3 4"}, {"copy 3 3 8", "3", "0 1 2 3 4"},
		{"zero 1 8", "1", "0 1 2 3 4"},
		{"jump 8", "", "0 1 2 3 4"},
	} {
		livesAre(t, 0, 5, c.step+"; label 8; ret -1", c.alone+",,")
		livesAre(t, 0, 5, c.step+"; label 8;"+five+"; ret -1", c.among+",0 1 2 3 4,0 1 2 3 4,")
	}
	livesAre(t, 0, 1, "ret 0", "0")
	livesAre(t, 0, 1, "ret -1", "")
	livesAre(t, 0, 0, "ret -1", "")
	livesAre(t, 0, 3, "ret 2; "+"ret 1", "2,1")
}

func TestLiveOfJumps(t *testing.T) {
	for _, c := range []struct {
		regs        int
		steps, want string
	}{
		{3, "num 0 1; num 1 2; add 2 0 1; ret 2", ",0,0 1,2"},
		{1, "num 0 1; ret -1", ","}, {1, "label 0; label 1; ret 0", "0,0,0"}, {1, "add 0 0 0; ret 0", "0,0"}, {1, "move 0 0; ret -1", "0,"}, {1, "num 0 1; num 0 2; ret 0", ",,0"},
		// Steps behind a jump and a return go on as others do, though nobody comes to them.
		{2, "ret -1; move 1 0; ret 1", ",0,1"}, {2, "jump 0; move 1 0; label 0; ret -1", ",0,,"}, {2, "jump 0; ret 1; label 0; ret 0", "0,1,0,0"}, {2, "ret 0; label 0; zero 1 1; jump 0; ret -1", "0,1,1,1,"}, {2, "ret -1; if eq 0 0 4; label 4; ret 1", ",0 1,1,1"},
		// To the step behind it, to its own label, and round and round.
		{3, "if eq 0 1 3; label 3; ret 2", "0 1 2,2,2"}, {2, "jump 3; label 3; ret 1", "1,1,1"}, {2, "label 0; if eq 0 1 0; ret -1", "0 1,0 1,"}, {1, "label 0; jump 0; ret 0", ",,0"}, {1, "num 0 1; label 0; jump 0; ret 0", ",,,0"}, {2, "label 0; zero 0 1; jump 0; ret 1", "0,0,0,1"}, {2, "label 0; move 0 1; jump 0; ret 0", "1,1,1,0"},
		// Backwards and forwards.
		{2, "jump 2; label 1; ret 0; label 2; num 0 3; jump 1; ret 1", ",0,0,,,0,1"}, {3, "if eq 0 1 5; num 2 1; label 5; ret 2", "0 1 2,,2,2"}, {3, "if eq 0 0 5; num 2 1; jump 6; label 5; num 2 2; label 6; ret 2", "0,,2,,,2,2"}, {1, "label 4; num 0 1; label 3; ret 0", ",,0,0"},
		{4, "num 0 9; num 1 1; label 0; sub 0 0 1; if ne 0 2 0; ret 3", "2 3,0 2 3,0 1 2 3,0 1 2 3,0 1 2 3,3"},
		{4, "num 0 0; label 0; num 1 0; label 1; add 1 1 2; if lt 1 3 1; add 0 0 1; if lt 0 3 0; ret 0", "2 3,0 2 3,0 2 3,0 1 2 3,0 1 2 3,0 1 2 3,0 1 2 3,0 2 3,0"},
		// What is set in a loop ahead of its use is not live around it.
		{3, "label 0; num 0 1; zero 0 1; if eq 1 2 0; ret -1", "1 2,1 2,0 1 2,1 2,"}, {3, "label 0; zero 0 1; num 0 1; if eq 1 2 0; ret -1", "0 1 2,0 1 2,1 2,0 1 2,"},
		// A loop that is come into in its middle.
		{3, "jump 1; label 0; zero 0 1; label 1; zero 1 1; if eq 2 2 0; ret -1", "0 1 2,0 1 2,0 1 2,0 1 2,0 1 2,0 1 2,"}, {2, "jump 1; label 0; ret 0; label 1; jump 2; label 3; jump 0; label 2; jump 3; ret 1", "0,0,0,0,0,0,0,0,0,1"},
	} {
		for params := range c.regs + 1 {
			livesAre(t, params, c.regs, c.steps, c.want)
		}
	}
	livesAre(t, 0, 0, "label 1; jump 1; ret -1", ",,")
	livesAre(t, 0, 6, "call -1 f 5 4 3 2 1 0; ret -1", "0 1 2 3 4 5,")
	livesAre(t, 0, 2000, "call -1 f 1999 64 63 65 128 127 0; ret -1", "0 63 64 65 127 128 1999,")
	for _, reg := range []int{0, 1, 31, 32, 62, 63, 64, 65, 127, 128, 1998, 1999} {
		livesAre(t, 0, 2000, fmt.Sprintf("label 0; num %d 1; label 1; ret %d", reg, reg), fmt.Sprintf(",,%d,%d", reg, reg))
	}
}

// allUsed is steps that use the registers 0 to regs - 1.
func allUsed(regs int) string {
	text := strings.Builder{}
	for first := 0; first < regs; first += impl.MaxParams {
		text.WriteString("call -1 f")
		for reg := first; reg < min(first+impl.MaxParams, regs); reg++ {
			fmt.Fprint(&text, " ", reg)
		}
		text.WriteString(";")
	}
	return text.String()
}

func manyLabels(from, count int) string {
	text := strings.Builder{}
	for i := range count {
		fmt.Fprint(&text, "label ", from+i, ";")
	}
	return text.String()
}

// The most steps and registers, where everything is live everywhere: 16 million numbers, so these are asked for once alone.
func TestLiveOfTheGreatestFunction(t *testing.T) {
	const regs, steps = impl.MaxRegs, impl.MaxIr
	uses := stepsFrom(allUsed(regs))
	code := append(stepsFrom(manyLabels(1, steps-2-len(uses)-1)), uses...)
	f := impl.IrFun{Regs: regs, Code: slices.Concat(stepsFrom("label 0"), code, stepsFrom("if eq 0 0 0; ret -1"))}
	all := make([]int, regs)
	for reg := range all {
		all[reg] = reg
	}
	live := impl.LiveBefore(f)
	if len(live) != steps {
		t.Fatalf("%d", len(live))
	}
	for i, list := range live[:steps-1] {
		if !slices.Equal(list, all) {
			t.Fatalf("step %d: %d", i, len(list))
		}
	}
	if len(live[steps-1]) != 0 {
		t.Errorf("%v", live[steps-1])
	}
	spans := slices.Repeat([]impl.Span{{From: 0, To: steps - 2, Cross: true}}, regs)
	if got := impl.Spans(f); !slices.Equal(got, spans) {
		t.Errorf("the first %v", got[:3])
	}
	if got := impl.Allot(f); !slices.Equal(got, allotBy(spans)) {
		t.Errorf("the first %v", got[:3])
	}
	f.Params = impl.MaxParams
	for reg := range f.Params {
		spans[reg].From = -1
	}
	if got := impl.Spans(f); !slices.Equal(got, spans) {
		t.Errorf("the first %v", got[:3])
	}
	f.Code = append(f.Code, f.Code[steps-1])
	if len(impl.LiveBefore(f)) != 0 || len(impl.Spans(f)) != 0 || len(impl.Allot(f)) != 0 {
		t.Errorf("one step more is not too many")
	}
}

// tangled is a function of blocks that jump here and there; each sets a register and uses another.
func tangled(blocks int) impl.IrFun {
	text := strings.Builder{}
	for k := range blocks {
		fmt.Fprintf(&text, "label %d; num %d 1; if eq %d %d %d; jump %d;", k, k*7%blocks, k, k, (k*917+5)%blocks, (k*1303+77)%blocks)
	}
	return fun(0, blocks, text.String()+"ret -1")
}

func TestLiveOfGreatFunctions(t *testing.T) {
	alloc(t, tangled(401))
	// Of as many steps as there can be it is enough that they are gone through.
	if g := givenOf(tangled(1999)); len(g.live) != 4*1999+1 || len(g.places) != 1999 {
		t.Errorf("%d, %d", len(g.live), len(g.places))
	}
	// A way through blocks that goes to and fro between the first and the last.
	text := strings.Builder{}
	const blocks = 400
	for k := range blocks {
		next := blocks - 1 - k
		if k >= blocks/2 {
			next++
		}
		fmt.Fprintf(&text, "label %d; zero %d 1; jump %d;", k, k, min(next, blocks-1))
	}
	alloc(t, fun(0, blocks, text.String()+"ret -1"))
}
