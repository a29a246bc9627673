package tests

import (
	"fmt"
	"strings"
	"testing"
)

func TestSpansOfParams(t *testing.T) {
	for _, c := range []struct {
		params, regs int
		steps, want  string
	}{
		{1, 1, "ret 0", "-1-0"}, {0, 1, "ret 0", "0-0"}, {1, 2, "ret 1", "none 0-0"}, {2, 2, "ret 1", "none -1-0"}, {1, 1, "label 0; label 1; ret 0", "-1-2"}, {0, 1, "label 0; label 1; ret 0", "0-2"},
		// Never read, and set before it is read.
		{1, 1, "ret -1", "none"}, {1, 1, "num 0 3; ret 0", "0-1"}, {1, 1, "num 0 1; ret -1", "0-0"}, {1, 1, "label 0; num 0 1; ret 0", "1-2"}, {1, 1, "label 0; num 0 1; label 1; ret -1", "1-1"}, {2, 2, "label 0; num 1 3; add 0 0 1; ret 0", "-1-3 1-2"},
		{1, 1, "num 0 1; zero 0 1; num 0 2; ret 0", "0-3"}, {1, 1, "zero 0 1; num 0 1; ret -1", "-1-1"}, {1, 1, "zero 0 1; label 0; label 1; num 0 1; ret -1", "-1-3"},
		// Set and read by the first step.
		{1, 1, "add 0 0 0; ret 0", "-1-1"}, {0, 1, "add 0 0 0; ret 0", "0-1"}, {1, 1, "add 0 0 0; ret -1", "-1-0"}, {2, 2, "move 1 0; ret 1", "-1-0 0-1"}, {2, 2, "move 0 1; ret 0", "0-1 -1-0"},
		// Read on one way alone, and where nobody comes to.
		{2, 2, "if eq 0 0 1; num 1 2; label 1; ret 1", "-1-0 -1-3"}, {2, 2, "if eq 0 0 1; ret -1; label 1; ret 1", "-1-0 -1-3"}, {1, 1, "ret -1; ret 0", "1-1"}, {1, 1, "ret -1; label 0; ret 0", "1-2"}, {1, 1, "jump 0; zero 0 1; label 0; ret -1", "1-1"}, {0, 1, "ret -1; ret 0", "1-1"},
		// Live in a loop that goes back to the first step.
		{1, 2, "label 0; num 0 1; zero 0 1; jump 0; ret -1", "1-2 none"}, {1, 2, "label 0; zero 0 1; num 0 1; jump 0; ret -1", "-1-3 none"}, {2, 2, "label 0; zero 1 1; jump 0; ret -1", "none -1-2"},
		{3, 5, "ret -1", "none none none none none"}, {3, 5, "call -1 f 4 3 2 1 0; ret -1", "-1-0 -1-0 -1-0 0-0 0-0"},
		{8, 10, "callr -1 9 8 7 6 5 4 3 2 1; ret 0", "-1-1! -1-0 -1-0 -1-0 -1-0 -1-0 -1-0 -1-0 0-0 0-0"},
	} {
		spansAre(t, c.params, c.regs, c.steps, c.want)
	}
	spansAre(t, 0, 0, "label 1; jump 1; ret -1", "")
}

func TestSpansOfSteps(t *testing.T) {
	for _, c := range []struct {
		regs        int
		steps, want string
	}{
		{1, "num 0 1; ret 0", "0-1"}, {1, "num 0 1; ret -1", "0-0"}, {2, "label 0; num 1 1; ret -1; zero 1 1; ret -1", "none 1-3"}, {1, "num 0 1; num 0 2; ret -1", "0-1"},
		{3, "num 2 1; num 1 2; add 0 1 2; ret 0", "2-3 1-2 0-2"},
		// From a set that nobody uses to a use that nobody sets.
		{1, "num 0 1; ret -1; label 0; ret 0", "0-3"},
		// Around a loop: to its last step, though the last use stands ahead of it.
		{2, "num 0 1; label 0; zero 0 1; label 1; if eq 1 1 0; ret -1", "0-4 0-4"}, {2, "num 0 1; label 0; num 1 2; zero 1 1; label 1; if eq 0 0 0; ret -1", "0-5 2-3"},
		{2, "jump 0; label 1; ret 0; label 0; num 0 1; jump 1; ret 1", "1-5 6-6"},
	} {
		spansAre(t, 0, c.regs, c.steps, c.want)
	}
	spansAre(t, 0, 2000, "num 1999 1; ret 64", strings.Repeat("none ", 64)+"0-1 "+strings.Repeat("none ", 1934)+"0-0")
	// A set of a great many steps: From and To at the bounds of words of bits.
	for _, ends := range [][2]int{{0, 63}, {0, 64}, {63, 64}, {64, 65}, {1, 127}, {127, 128}, {128, 7999}, {7998, 7999}, {0, 7999}} {
		from, to := ends[0], ends[1]
		steps := manyLabels(0, from) + "num 0 1;" + manyLabels(from, to-from-1) + "ret 0"
		spansAre(t, 0, 1, steps, fmt.Sprint(from, "-", to))
	}
}

func TestSpansAcrossCalls(t *testing.T) {
	for _, call := range []string{"call -1 f", "call -1 putchar", "call -1 getchar", "call -1 exit", "call -1 ?", "call 2 f", "call 1 f 1 1", "callr -1 1", "callr 1 1 1"} {
		for _, c := range []struct {
			params      int
			steps, want string
		}{
			// Strictly between, one behind From, one ahead of To.
			{0, "num 0 1; CALL; ret 0", "0-2!"}, {0, "num 0 1; label 0; CALL; label 1; ret 0", "0-4!"}, {0, "num 0 1; CALL; label 1; ret 0", "0-3!"}, {0, "num 0 1; label 0; CALL; ret 0", "0-3!"},
			// One ahead of From, one behind To.
			{0, "CALL; num 0 1; ret 0", "1-2"}, {0, "num 0 1; zero 0 1; CALL; ret -1", "0-1"}, {0, "CALL; num 0 1; zero 0 1; CALL; ret -1", "1-2"},
			// With From -1, at step 0; a register that is no param begins at that step.
			{1, "CALL; ret 0", "-1-1!"}, {0, "CALL; ret 0", "0-1"}, {1, "label 0; CALL; ret 0", "-1-2!"}, {0, "label 0; CALL; ret 0", "0-2!"}, {1, "CALL; ret -1", "none"}, {1, "num 0 1; CALL; ret -1", "0-0"}, {1, "CALL; num 0 1; ret 0", "1-2"},
			// Where it does not stand, but between.
			{0, "num 0 1; zero 0 1; CALL; num 0 2; ret 0", "0-4!"}, {0, "num 0 1; ret -1; CALL; ret -1; ret 0", "0-4!"}, {0, "num 0 1; CALL; num 0 1; ret -1", "0-2!"},
			// In a loop, ahead of the use and behind it.
			{0, "num 0 1; label 0; zero 0 1; CALL; if eq 2 2 0; ret -1", "0-4!"}, {0, "label 0; CALL; zero 0 1; if eq 2 2 0; ret -1", "0-3!"}, {0, "label 0; num 0 1; zero 0 1; CALL; if eq 2 2 0; ret -1", "1-2"},
		} {
			g := alloc(t, fun(c.params, 3, strings.ReplaceAll(c.steps, "CALL", call)))
			if text := spanText(g.spans[0]); text != c.want {
				t.Errorf("%s with %s: %s, not %s", c.steps, call, text, c.want)
			}
		}
	}
	// A call that sets a register, one that uses it, and one that does both.
	for _, c := range []struct {
		params      int
		steps, want string
	}{
		{0, "call 0 f; ret 0", "0-1"}, {0, "num 0 1; call -1 f 0; ret -1", "0-1"}, {0, "call 0 f; call -1 f 0; ret -1", "0-1"}, {0, "call 0 f; label 0; call -1 f 0; ret -1", "0-2"}, {0, "call 0 f; call -1 g; call -1 f 0; ret -1", "0-2!"}, {0, "num 0 1; call 0 f 0; ret 0", "0-2!"}, {0, "call 0 f 0; ret 0", "0-1"}, {1, "call 0 f 0; ret 0", "-1-1!"}, {1, "call -1 f 0; ret -1", "-1-0"}, {1, "call -1 f 0; ret 0", "-1-1!"}, {1, "call 0 f; ret 0", "0-1"},
		{0, "callr 0 0; ret 0", "0-1"}, {1, "callr 0 0; ret 0", "-1-1!"}, {1, "callr -1 0; ret -1", "-1-0"}, {0, "num 0 1; callr -1 0 0; ret 0", "0-2!"}, {0, "num 0 1; callr -1 0; ret -1", "0-1"},
	} {
		spansAre(t, c.params, 1, c.steps, c.want)
	}
	// No other step is a call.
	for _, step := range []string{"num 1 1", "move 1 2", "add 1 2 3", "narrow i8 1 2", "load w 1 2", "store w 1 2", "addr 1 f", "slot 1 1", "label 9", "jump 8", "if eq 1 2 8", "ret 1", "copy 1 2 4", "zero 1 4"} {
		if g := alloc(t, fun(0, 4, "num 0 1;"+step+"; label 8; ret 0")); g.spans[0].Cross || g.spans[0].To != 3 {
			t.Errorf("%s: %v", step, g.spans[0])
		}
	}
	// Many calls, and stretches between two of them.
	text := strings.Builder{}
	wants := []string{}
	for i := range 100 {
		fmt.Fprintf(&text, "call -1 f; num %d 1; zero %d 1;", i, i)
		wants = append(wants, fmt.Sprint(3*i+1, "-", 3*i+2))
	}
	spansAre(t, 0, 100, text.String()+"ret -1", strings.Join(wants, " "))
}
