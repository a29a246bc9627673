package impl

const AluAdd = 1
const AluSub = 2
const AluSll = 3
const AluSlt = 4
const AluSltu = 5
const AluXor = 6
const AluSrl = 7
const AluSra = 8
const AluOr = 9
const AluAnd = 10
const AluMul = 11
const AluMulh = 12
const AluMulhsu = 13
const AluMulhu = 14
const AluDiv = 15
const AluDivu = 16
const AluRem = 17
const AluRemu = 18

const KindI8 = 1
const KindU8 = 2
const KindI16 = 3
const KindU16 = 4
const KindW = 5

// operation is what an op of Alu does to two words; what it gives need not be a word yet.
type operation func(a int, b int) int

// wordPart are the integer types whose bytes are the low bytes of a word.
type wordPart interface {
	int8 | uint8 | int16 | uint16 | int32 | uint32
}

// widen keeps the low bytes of n that T holds; T's sign says whether the highest bit is copied upwards.
func widen[T wordPart](n int) int {
	return int(T(n))
}

// Word is a number as a word.
func Word(n int) int {
	return widen[uint32](n)
}

// Signed is a word as a signed number.
func Signed(n int) int {
	return widen[int32](n)
}

func isWord(n int) bool {
	return n == Word(n)
}

// Alu does an operation.
func Alu(op int, a int, b int) (int, bool) {
	if op < AluAdd || op > AluRemu {
		return 0, false
	}
	do := operations()[op]
	return Word(do(Word(a), Word(b))), true
}

// operations is the table of Alu, by op; place 0 is none.
func operations() [AluRemu + 1]operation {
	return [AluRemu + 1]operation{
		AluAdd:    func(a int, b int) int { return a + b },
		AluSub:    func(a int, b int) int { return a - b },
		AluSll:    func(a int, b int) int { return a << shiftBy(b) },
		AluSlt:    func(a int, b int) int { return below(Signed(a), Signed(b)) },
		AluSltu:   below,
		AluXor:    func(a int, b int) int { return a ^ b },
		AluSrl:    func(a int, b int) int { return a >> shiftBy(b) },
		AluSra:    func(a int, b int) int { return Signed(a) >> shiftBy(b) },
		AluOr:     func(a int, b int) int { return a | b },
		AluAnd:    func(a int, b int) int { return a & b },
		AluMul:    func(a int, b int) int { return a * b },
		AluMulh:   func(a int, b int) int { return Signed(a) * Signed(b) >> 32 },
		AluMulhsu: func(a int, b int) int { return Signed(a) * b >> 32 },
		AluMulhu:  highUnsigned,
		AluDiv:    func(a int, b int) int { return quotient(Signed(a), Signed(b)) },
		AluDivu:   quotient,
		AluRem:    func(a int, b int) int { return left(Signed(a), Signed(b)) },
		AluRemu:   left,
	}
}

func shiftBy(b int) int {
	return b & 31
}

func below(a int, b int) int {
	if a < b {
		return 1
	}
	return 0
}

// highUnsigned takes the product as 64 bits without a sign: that of two words may be too great for an int.
func highUnsigned(a int, b int) int {
	return int(uint64(a) * uint64(b) >> 32)
}

// quotient of two words or of two signed numbers; -1 becomes the word of all ones that stands for no quotient.
func quotient(a int, b int) int {
	if b == 0 {
		return -1
	}
	return a / b
}

func left(a int, b int) int {
	if b == 0 {
		return a
	}
	return a % b
}

// Narrow widens low bytes.
func Narrow(kind int, n int) (int, bool) {
	switch kind {
	case KindI8:
		return Word(widen[int8](n)), true
	case KindU8:
		return widen[uint8](n), true
	case KindI16:
		return Word(widen[int16](n)), true
	case KindU16:
		return widen[uint16](n), true
	case KindW:
		return widen[uint32](n), true
	}
	return 0, false
}

// KindSize is the number of bytes of a kind.
func KindSize(kind int) int {
	switch kind {
	case KindI8, KindU8:
		return 1
	case KindI16, KindU16:
		return 2
	case KindW:
		return 4
	}
	return 0
}
