package ir

// parts is which of an instruction's fields a kind has.
type parts struct {
	op, dst, a, b, n, slot bool
}

// One table for all that is asked of a kind, so that no two answers differ about it.
var kinds = [Kinds]parts{
	Const: {dst: true, n: true},
	Copy:  {dst: true, a: true},
	Do:    {op: true, dst: true, a: true, b: true},
	In:    {dst: true},
	Out:   {a: true},
	Load:  {dst: true, slot: true},
	Store: {a: true, slot: true},
	Get:   {dst: true, a: true},
	Put:   {a: true, b: true},
}

func (k Kind) parts() parts {
	if k >= Kinds {
		return parts{}
	}
	return kinds[k]
}

// Sets: the register that an instruction sets; false: none.
func (x Instr) Sets() (int, bool) {
	if !x.Kind.parts().dst {
		return 0, false
	}
	return x.Dst, true
}

// Reads: the registers that it reads, in order.
func (x Instr) Reads() []int {
	var regs []int
	has := x.Kind.parts()
	if has.a {
		regs = append(regs, x.A)
	}
	if has.b {
		regs = append(regs, x.B)
	}
	return regs
}

// Turned: likewise, other registers read instead. A nil function has nothing instead: all stay.
func (x Instr) Turned(f func(int) int) Instr {
	if f == nil {
		return x
	}
	has := x.Kind.parts()
	if has.a {
		x.A = f(x.A)
	}
	if has.b {
		x.B = f(x.B)
	}
	return x
}

// Pure: does it nothing but set a register, and can't trap, and is the same wherever it stands?
func (x Instr) Pure() bool {
	switch x.Kind {
	case Const, Copy:
		return true
	case Do:
		return !x.Op.Traps()
	}
	return false
}

// Only: of an instruction what its kind has.
func (x Instr) Only() Instr {
	only := Instr{Kind: x.Kind}
	has := x.Kind.parts()
	if has.op {
		only.Op = x.Op
	}
	if has.dst {
		only.Dst = x.Dst
	}
	if has.a {
		only.A = x.A
	}
	if has.b {
		only.B = x.B
	}
	if has.n {
		only.N = x.N
	}
	if has.slot {
		only.Slot = x.Slot
	}
	return only
}
