package tests

import (
	"math"
	"math/big"
	"testing"

	"loop.example/s01681/impl"
)

// edges are the numbers at which words, signs and bytes turn, ordinary ones, and numbers that are no words.
var edges = []int{
	0, 1, 2, 3, 5, 7, 10, 12, 31, 32, 33, 100, 127, 128, 255, 256, 32767, 32768, 65535, 65536, 65537, 123456789,
	2147483646, 2147483647, 2147483648, 2147483649, 4294967289, 4294967294, 4294967295,
	-1, -2, -7, -128, -129, -32768, -32769, -2147483647, -2147483648, -2147483649, -4294967295, -4294967296, -4294967297,
	4294967296, 4294967297, 6442450944, 8589934597, 1 << 40, math.MaxInt, math.MaxInt - 1, math.MinInt, math.MinInt + 1,
}

// wordBy and signedBy go by whole numbers of any size, so that they share nothing with the program's way.
func wordBy(n *big.Int) *big.Int {
	return new(big.Int).Mod(n, big.NewInt(1<<32))
}

func signedBy(n *big.Int) *big.Int {
	w := wordBy(n)
	if w.Cmp(big.NewInt(1<<31)) >= 0 {
		w.Sub(w, big.NewInt(1<<32))
	}
	return w
}

func TestWordAndSignedAtEdges(t *testing.T) {
	for _, n := range edges {
		if got, want := impl.Word(n), int(wordBy(big.NewInt(int64(n))).Int64()); got != want {
			t.Errorf("Word(%d) = %d, want %d", n, got, want)
		}
		if got, want := impl.Signed(n), int(signedBy(big.NewInt(int64(n))).Int64()); got != want {
			t.Errorf("Signed(%d) = %d, want %d", n, got, want)
		}
	}
	for _, c := range []struct{ n, word, signed int }{
		{2147483647, 2147483647, 2147483647}, {2147483648, 2147483648, -2147483648}, {4294967295, 4294967295, -1},
		{4294967296, 0, 0}, {-1, 4294967295, -1}, {-2147483648, 2147483648, -2147483648},
		{-2147483649, 2147483647, 2147483647}, {math.MaxInt, 4294967295, -1}, {math.MinInt, 0, 0},
	} {
		if impl.Word(c.n) != c.word || impl.Signed(c.n) != c.signed {
			t.Errorf("of %d: %d and %d", c.n, impl.Word(c.n), impl.Signed(c.n))
		}
	}
}

// highBy divides by 2^32 and rounds down: the divisor is above 0, so that Div does it.
func highBy(p *big.Int) *big.Int {
	return new(big.Int).Div(p, big.NewInt(1<<32))
}

func belowBy(a, b *big.Int) *big.Int {
	if a.Cmp(b) < 0 {
		return big.NewInt(1)
	}
	return big.NewInt(0)
}

func quotientBy(a, b *big.Int) *big.Int {
	if b.Sign() == 0 {
		return big.NewInt(-1)
	}
	return new(big.Int).Quo(a, b)
}

func leftBy(a, b *big.Int) *big.Int {
	if b.Sign() == 0 {
		return a
	}
	return new(big.Int).Rem(a, b)
}

func shiftedBy(op int, a, b *big.Int) *big.Int {
	power := new(big.Int).Lsh(big.NewInt(1), uint(b.Int64()%32))
	switch op {
	case impl.AluSll:
		return new(big.Int).Mul(a, power)
	case impl.AluSrl:
		return new(big.Int).Div(a, power)
	}
	return new(big.Int).Div(signedBy(a), power)
}

func aluBy(op int, n, m int) int {
	a, b := wordBy(big.NewInt(int64(n))), wordBy(big.NewInt(int64(m)))
	sa, sb := signedBy(a), signedBy(b)
	v := new(big.Int)
	switch op {
	case impl.AluAdd:
		v.Add(a, b)
	case impl.AluSub:
		v.Sub(a, b)
	case impl.AluSll, impl.AluSrl, impl.AluSra:
		v = shiftedBy(op, a, b)
	case impl.AluSlt:
		v = belowBy(sa, sb)
	case impl.AluSltu:
		v = belowBy(a, b)
	case impl.AluXor:
		v.Xor(a, b)
	case impl.AluOr:
		v.Or(a, b)
	case impl.AluAnd:
		v.And(a, b)
	case impl.AluMul:
		v.Mul(a, b)
	case impl.AluMulh:
		v = highBy(v.Mul(sa, sb))
	case impl.AluMulhsu:
		v = highBy(v.Mul(sa, b))
	case impl.AluMulhu:
		v = highBy(v.Mul(a, b))
	case impl.AluDiv:
		v = quotientBy(sa, sb)
	case impl.AluDivu:
		v = quotientBy(a, b)
	case impl.AluRem:
		v = leftBy(sa, sb)
	case impl.AluRemu:
		v = leftBy(a, b)
	}
	return int(wordBy(v).Int64())
}

func TestAluAtEdges(t *testing.T) {
	for op := impl.AluAdd; op <= impl.AluRemu; op++ {
		for _, a := range edges {
			for _, b := range edges {
				if got, ok := impl.Alu(op, a, b); !ok || got != aluBy(op, a, b) {
					t.Errorf("Alu(%d, %d, %d) = %d %v, want %d", op, a, b, got, ok, aluBy(op, a, b))
				}
			}
		}
	}
}

func TestAluByHand(t *testing.T) {
	const top, ones = 2147483648, 4294967295
	for _, c := range []struct{ op, a, b, want int }{
		{impl.AluAdd, 2, 3, 5}, {impl.AluAdd, ones, 1, 0}, {impl.AluAdd, 2147483647, 1, top},
		{impl.AluSub, 3, 5, 4294967294}, {impl.AluSub, 0, top, top},
		{impl.AluSll, 3, 4, 48}, {impl.AluSll, 1, 32, 1}, {impl.AluSll, ones, 31, top}, {impl.AluSll, 1, -1, top},
		{impl.AluSrl, ones, 31, 1}, {impl.AluSrl, -16, 2, 1073741820}, {impl.AluSrl, top, 32, top},
		{impl.AluSra, -16, 2, 4294967292}, {impl.AluSra, top, 31, ones}, {impl.AluSra, 2147483647, 30, 1},
		{impl.AluSlt, -1, 0, 1}, {impl.AluSlt, top, 2147483647, 1}, {impl.AluSlt, 4, 4, 0},
		{impl.AluSltu, -1, 0, 0}, {impl.AluSltu, 2147483647, top, 1}, {impl.AluSltu, 4, 4, 0},
		{impl.AluXor, -1, 1, 4294967294}, {impl.AluOr, top, 1, 2147483649}, {impl.AluAnd, -1, 4294967296, 0},
		{impl.AluMul, -3, 5, 4294967281}, {impl.AluMul, ones, ones, 1}, {impl.AluMul, top, 2, 0},
		{impl.AluMulh, -1, 1, ones}, {impl.AluMulh, top, top, 1073741824}, {impl.AluMulh, top, 2147483647, 3221225472},
		{impl.AluMulhsu, -1, ones, ones}, {impl.AluMulhsu, top, ones, top}, {impl.AluMulhsu, 1, ones, 0},
		{impl.AluMulhu, ones, ones, 4294967294}, {impl.AluMulhu, top, 2, 1}, {impl.AluMulhu, top, top, 1073741824},
	} {
		if got, ok := impl.Alu(c.op, c.a, c.b); !ok || got != c.want {
			t.Errorf("Alu(%d, %d, %d) = %d %v, want %d", c.op, c.a, c.b, got, ok, c.want)
		}
	}
}

func alu(t *testing.T, op, a, b int) int {
	t.Helper()
	v, ok := impl.Alu(op, a, b)
	if !ok || v < 0 || v > 4294967295 {
		t.Fatalf("Alu(%d, %d, %d) = %d %v: no word", op, a, b, v, ok)
	}
	return v
}

// The high half, with the sign it has, times 2^32 and the low half are the product of what Word and Signed give.
func TestHalvesMakeTheProduct(t *testing.T) {
	for _, a := range edges {
		for _, b := range edges {
			for _, c := range []struct{ op, a, b, high int }{
				{impl.AluMulh, impl.Signed(a), impl.Signed(b), impl.Signed(alu(t, impl.AluMulh, a, b))},
				{impl.AluMulhsu, impl.Signed(a), impl.Word(b), impl.Signed(alu(t, impl.AluMulhsu, a, b))},
				{impl.AluMulhu, impl.Word(a), impl.Word(b), alu(t, impl.AluMulhu, a, b)},
			} {
				want := new(big.Int).Mul(big.NewInt(int64(c.a)), big.NewInt(int64(c.b)))
				got := new(big.Int).Mul(big.NewInt(int64(c.high)), big.NewInt(1<<32))
				got.Add(got, big.NewInt(int64(alu(t, impl.AluMul, a, b))))
				if got.Cmp(want) != 0 {
					t.Errorf("op %d of %d and %d: %v, want %v", c.op, a, b, got, want)
				}
			}
		}
	}
}

// What is left is nearer to 0 than the divisor, and has the sign of a: only one quotient does that.
func TestQuotientAndLeftMakeTheNumber(t *testing.T) {
	for _, a := range edges {
		for _, b := range edges {
			if impl.Word(b) == 0 {
				continue
			}
			q, r := alu(t, impl.AluDivu, a, b), alu(t, impl.AluRemu, a, b)
			if q*impl.Word(b)+r != impl.Word(a) || r >= impl.Word(b) {
				t.Errorf("unsigned %d by %d: %d and %d", a, b, q, r)
			}
			q, r = impl.Signed(alu(t, impl.AluDiv, a, b)), impl.Signed(alu(t, impl.AluRem, a, b))
			sa, sb := impl.Signed(a), impl.Signed(b)
			if impl.Word(q*sb+r) != impl.Word(a) || max(r, -r) >= max(sb, -sb) || r != 0 && (r < 0) != (sa < 0) {
				t.Errorf("signed %d by %d: %d and %d", a, b, q, r)
			}
		}
	}
}

func TestDivisionCorners(t *testing.T) {
	for _, c := range []struct{ a, b, div, rem, divu, remu int }{
		{7, 2, 3, 1, 3, 1},
		{-7, 2, 4294967293, 4294967295, 2147483644, 1},
		{7, -2, 4294967293, 1, 0, 7},
		{-7, -2, 3, 4294967295, 0, 4294967289},
		{6, -3, 4294967294, 0, 0, 6},
		{0, 5, 0, 0, 0, 0},
		{9, 0, 4294967295, 9, 4294967295, 9},
		{0, 0, 4294967295, 0, 4294967295, 0},
		{-9, 0, 4294967295, 4294967287, 4294967295, 4294967287},
		{2147483648, 0, 4294967295, 2147483648, 4294967295, 2147483648},
		{5, 4294967296, 4294967295, 5, 4294967295, 5},
		{-2147483648, -1, 2147483648, 0, 0, 2147483648},
		{2147483648, 4294967295, 2147483648, 0, 0, 2147483648},
		{-2147483648, 1, 2147483648, 0, 2147483648, 0},
		{2147483647, -1, 2147483649, 0, 0, 2147483647},
		{math.MinInt, -1, 0, 0, 0, 0},
	} {
		got := []int{alu(t, impl.AluDiv, c.a, c.b), alu(t, impl.AluRem, c.a, c.b), alu(t, impl.AluDivu, c.a, c.b), alu(t, impl.AluRemu, c.a, c.b)}
		for i, want := range []int{c.div, c.rem, c.divu, c.remu} {
			if got[i] != want {
				t.Errorf("%d by %d: answer %d is %d, want %d", c.a, c.b, i, got[i], want)
			}
		}
	}
}

func TestNoOp(t *testing.T) {
	for _, op := range []int{0, -1, -18, 19, 20, 47, 4294967297, math.MaxInt, math.MinInt} {
		for _, a := range []int{0, 1, -1, 4294967295} {
			if v, ok := impl.Alu(op, a, 3); ok || v != 0 {
				t.Errorf("Alu(%d, %d, 3) = %d %v", op, a, v, ok)
			}
		}
	}
}

func TestNarrowAtEdges(t *testing.T) {
	for _, kind := range []struct {
		kind, bits int
		sign       bool
	}{{impl.KindI8, 8, true}, {impl.KindU8, 8, false}, {impl.KindI16, 16, true}, {impl.KindU16, 16, false}, {impl.KindW, 32, false}} {
		for _, n := range edges {
			size := big.NewInt(1 << kind.bits)
			v := new(big.Int).Mod(big.NewInt(int64(n)), size)
			if kind.sign && v.Bit(kind.bits-1) == 1 {
				v.Sub(v, size)
			}
			want := int(wordBy(v).Int64())
			if got, ok := impl.Narrow(kind.kind, n); !ok || got != want {
				t.Errorf("Narrow(%d, %d) = %d %v, want %d", kind.kind, n, got, ok, want)
			}
		}
	}
	for _, c := range []struct{ kind, n, want int }{
		{impl.KindI8, 127, 127}, {impl.KindI8, 128, 4294967168}, {impl.KindI8, 255, 4294967295}, {impl.KindI8, 256, 0},
		{impl.KindU8, 128, 128}, {impl.KindU8, 255, 255}, {impl.KindU8, 256, 0}, {impl.KindU8, -1, 255},
		{impl.KindI16, 32767, 32767}, {impl.KindI16, 32768, 4294934528}, {impl.KindI16, 65535, 4294967295}, {impl.KindI16, 65536, 0},
		{impl.KindU16, 32768, 32768}, {impl.KindU16, 65535, 65535}, {impl.KindU16, 65536, 0}, {impl.KindU16, -1, 65535},
		{impl.KindW, 4294967295, 4294967295}, {impl.KindW, 4294967296, 0}, {impl.KindW, -1, 4294967295},
	} {
		if got, ok := impl.Narrow(c.kind, c.n); !ok || got != c.want {
			t.Errorf("Narrow(%d, %d) = %d %v, want %d", c.kind, c.n, got, ok, c.want)
		}
	}
}

func TestKinds(t *testing.T) {
	for kind, size := range map[int]int{impl.KindI8: 1, impl.KindU8: 1, impl.KindI16: 2, impl.KindU16: 2, impl.KindW: 4} {
		if impl.KindSize(kind) != size {
			t.Errorf("KindSize(%d) = %d, want %d", kind, impl.KindSize(kind), size)
		}
	}
	for _, kind := range []int{0, -1, 6, 7, 4294967297, math.MaxInt, math.MinInt} {
		if v, ok := impl.Narrow(kind, 200); ok || v != 0 || impl.KindSize(kind) != 0 {
			t.Errorf("kind %d is none: %d %v %d", kind, v, ok, impl.KindSize(kind))
		}
	}
}
