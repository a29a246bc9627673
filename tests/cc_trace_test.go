package tests

import (
	"math/rand"
	"testing"

	"loop.example/s01681/impl"
)

// callUnderWay is where a call goes back to, and the words of the registers that it keeps.
type callUnderWay struct {
	back int
	kept [13]int
}

// keptBy are sp and the registers that calls keep.
func keptBy(regs []int) [13]int {
	kept := [13]int{regs[2], regs[8], regs[9]}
	copy(kept[3:], regs[18:28])
	return kept
}

// traced runs a source that is not undefined step by step, up to so many steps: promise 17 for each call, and promise 23 for
// each store. It gives how many calls came back, and how many stores there were.
func (m onMachine) traced(t *testing.T, stack, most int) (int, int) {
	t.Helper()
	image, _, _, _ := impl.Build([]byte(m.text), stack)
	machine, ok := impl.StartMachine(image, []byte(m.in))
	if !ok {
		t.Errorf("%.500q, stack %d: no machine", m.text, stack)
		return 0, 0
	}
	calls := []callUnderWay{}
	backs, stores := 0, 0
	for range most {
		word := (machine.Pc - impl.CodeBase) / 4
		if word < 0 || word >= len(image.Code) {
			t.Errorf("%.1500q, stack %d: at %d after %d steps", m.text, stack, machine.Pc, machine.Steps)
			break
		}
		in, _ := impl.DecodeInst(image.Code[word])
		next := impl.StepMachine(machine)
		if next.End != impl.EndNone {
			break
		}
		switch {
		case isStore(in.Op):
			stores++
			m.storesRight(t, machine, in, stack)
		case (in.Op == impl.OpJal || in.Op == impl.OpJalr) && in.Rd == 1:
			if sp := machine.Regs[2]; sp%16 != 0 || sp > impl.StackTop || sp < impl.StackTop-stack {
				t.Errorf("%.1500q, stack %d: sp is %d at a call, after %d steps", m.text, stack, sp, machine.Steps)
			}
			calls = append(calls, callUnderWay{machine.Pc + 4, keptBy(machine.Regs)})
		case in.Op == impl.OpJalr:
			if len(calls) == 0 {
				t.Errorf("%.1500q, stack %d: back from no call, after %d steps", m.text, stack, machine.Steps)
				return backs, stores
			}
			last := calls[len(calls)-1]
			calls = calls[:len(calls)-1]
			backs++
			if next.Pc != last.back || keptBy(next.Regs) != last.kept {
				t.Errorf("%.1500q, stack %d: back at %d with %v, not at %d with %v, after %d steps", m.text, stack, next.Pc, keptBy(next.Regs), last.back, last.kept, next.Steps)
				return backs, stores
			}
		}
		machine = next
	}
	return backs, stores
}

func isStore(op int) bool { return op == impl.OpSb || op == impl.OpSh || op == impl.OpSw }

// storesRight is promise 23, for one store.
func (m onMachine) storesRight(t *testing.T, machine impl.Machine, in impl.Inst, stack int) {
	t.Helper()
	at := impl.Word(machine.Regs[in.Rs1] + in.Imm)
	size := map[int]int{impl.OpSb: 1, impl.OpSh: 2, impl.OpSw: 4}[in.Op]
	inData := at >= impl.DataBase && at+size <= impl.DataBase+len(machine.Data)
	inStack := at >= machine.Regs[2] && at >= impl.StackTop-stack && at+size <= impl.StackTop
	if !inData && !inStack {
		t.Errorf("%.1500q, stack %d: a store of %d bytes at %d, sp being %d, after %d steps", m.text, stack, size, at, machine.Regs[2], machine.Steps)
	}
}

// Promises 17 and 23, from the beginning to the end of each program.
func TestEachCallAndStore(t *testing.T) {
	t.Parallel()
	backs, stores := 0, 0
	for _, c := range append(sourcesByHand(), []struct{ in, text string }{
		// Calls through pointers, with spilt arguments, with results that are not used, from all depths.
		{"", "int f(int a,int b,int c,int d,int e,int f,int g,int h){return a-b+c-d+e-f+g-h;}int(*p)(int,int,int,int,int,int,int,int)=f;@int i,s=0;for(i=0;i<5;i++)s+=p(i,s,i*s,i-s,i+s,1,2,3)-f(s,i,3,2,1,i,s,4);return s;"}, {"", "void v(void){}int w(void){return 5;}void(*q[2])(void)={v,v};@w();v();q[0]();(*q[1])();w();return w();"}, {"", "char big(int n){char a[5000];a[4999]=n;putchar('b');return a[4999]+(n?big(n-1):0);}@return big(3)+big(2);"}, {"", "int e(int n){if(n==0)exit(9);return e(n-1)+1;}@return e(7);"}, {"abc", "int r(void){int c=getchar();if(c==-1)return 0;int k=r();putchar(c);return k+1;}@return r();"},
	}...) {
		text := whole(c.text)
		meant, _, _, _ := impl.Meaning([]byte(text), []byte(c.in), 200000)
		ir, _, _, _ := impl.Lower([]byte(text))
		m, ok := newOnMachine(t, ir, text, c.in, meant)
		if !ok || meant.End != impl.EndExit {
			t.Errorf("%q: %v", c.text, meant)
			continue
		}
		b, s := m.traced(t, m.need, 6000)
		backs, stores = backs+b, stores+s
		// Also where the stack is too small.
		for _, stack := range []int{0, 16, 32, m.need / 2 / 16 * 16} {
			m.traced(t, stack, 2000)
		}
	}
	if backs < 500 || stores < 2000 {
		t.Errorf("%d calls, %d stores", backs, stores)
	}
}

// The same for made-up programs that need many registers and great frames, and so keep much.
func TestCallsAndStoresOfWideSources(t *testing.T) {
	seeds(t, 80, func(t *testing.T, seed int) {
		r := rand.New(rand.NewSource(int64(seed) + 555))
		text := madeWideRun(r)
		meant, code, _, _ := impl.Meaning([]byte(text), nil, impl.MaxFuel)
		ir, _, _, _ := impl.Lower([]byte(text))
		if m, ok := newOnMachine(t, ir, text, "", meant); ok && code == 0 && meant.End == impl.EndExit {
			m.traced(t, min(m.need, impl.MaxStack), 4000)
		}
	})
}
