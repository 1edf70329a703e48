// Package word is layer 1: numbers of 64 bits, and what is done with two of them: see shared/doc/01-word.md.
package word

// Op is what is done with two numbers.
type Op uint8

// The ops.
const (
	Add Op = iota
	Sub
	Mul
	Div
	Rem
	And
	Or
	Xor
	Shl
	Shr
	Eq
	Less
	Ops
)

// An array, not a map: its length is bound to the list of ops, so a word can't be there without its op.
var words = [Ops]string{
	Add:  "add",
	Sub:  "sub",
	Mul:  "mul",
	Div:  "div",
	Rem:  "rem",
	And:  "and",
	Or:   "or",
	Xor:  "xor",
	Shl:  "shl",
	Shr:  "shr",
	Eq:   "eq",
	Less: "lt",
}

// Name: an op's word; "" of none.
func (o Op) Name() string {
	if o >= Ops {
		return ""
	}
	return words[o]
}

// Find: the op of a word; false: there is none.
func Find(s string) (Op, bool) {
	for i, w := range words {
		if w == s {
			return Op(i), true
		}
	}
	return 0, false
}

// Traps: may an op trap?
func (o Op) Traps() bool {
	return o == Div || o == Rem
}

// Turns: is it the same the other way round?
func (o Op) Turns() bool {
	switch o {
	case Add, Mul, And, Or, Xor, Eq:
		return true
	}
	return false
}

// Do: of two numbers; false: it traps (a quotient by 0), or there is no such op.
func (o Op) Do(a, b int64) (int64, bool) {
	if o >= Ops || o.Traps() && b == 0 {
		return 0, false
	}
	return o.reckon(a, b), true
}

// Go's own operators go round, and of the least number by -1 they answer it and 0, as the document asks: nothing is caught here.
func (o Op) reckon(a, b int64) int64 {
	switch o {
	case Add:
		return a + b
	case Sub:
		return a - b
	case Mul:
		return a * b
	case Div:
		return a / b
	case Rem:
		return a % b
	case And:
		return a & b
	case Or:
		return a | b
	case Xor:
		return a ^ b
	case Shl:
		return a << places(b)
	case Shr:
		return a >> places(b)
	case Eq:
		return truth(a == b)
	case Less:
		return truth(a < b)
	}
	return 0
}

// The lowest six bits are a number modulo 64 from 0 up, of numbers below 0 too; Go's % would answer one below 0 there.
func places(b int64) uint {
	return uint(b & 63)
}

func truth(holds bool) int64 {
	if holds {
		return 1
	}
	return 0
}
