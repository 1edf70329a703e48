package run

import (
	"refinery/api"
	"refinery/ir"
)

// machine is a program that may be, while it runs.
type machine struct {
	blocks  []ir.Block
	ways    ways
	regs    []int64 // one more than there are: the last is nobody's, and stays 0
	held    []int64 // what the phis of one block have read; room for those of any
	slots   [api.Slots]int64
	memory  [api.Memory]int64
	in      []int64 // those that are left
	most    int     // steps
	outcome Outcome // as far as it has come
}

// begun: the first block's phis have nothing to do at the beginning, as all registers are 0.
func begun(p ir.Program, in []int64, most int) *machine {
	regs := p.Regs()
	return &machine{
		blocks: p.Blocks,
		ways:   waysOf(p, regs),
		regs:   make([]int64, regs+1),
		held:   make([]int64, p.Count()),
		in:     in,
		most:   most,
	}
}

// block: the instructions and the end of one, and the phis of the one where it goes on; false: it has ended.
func (m *machine) block(at int) (int, bool) {
	b := &m.blocks[at]
	for i := range b.Instrs {
		if !m.step() {
			return m.ended(Spent)
		}
		if !m.do(&b.Instrs[i]) {
			return m.ended(Trapped)
		}
	}
	if !m.step() {
		return m.ended(Spent)
	}
	switch b.Last.End {
	case ir.Jump:
		return m.along(m.ways.yes(at)), true
	case ir.Branch:
		if m.regs[b.Last.A] != 0 {
			return m.along(m.ways.yes(at)), true
		}
		return m.along(m.ways.no(at)), true
	case ir.Return:
		m.outcome.Value = m.regs[b.Last.A]
		return m.ended(Returned)
	}
	return m.ended(Trapped)
}

func (m *machine) ended(e End) (int, bool) {
	m.outcome.End = e
	return 0, false
}

// step: may there be one more? It counts ahead of being done, as one that can't be done counts, too.
func (m *machine) step() bool {
	if m.outcome.Steps >= m.most {
		return false
	}
	m.outcome.Steps++
	return true
}

// do: an instruction; false: it can't be done, and nothing was.
func (m *machine) do(x *ir.Instr) bool {
	switch x.Kind {
	case ir.Const:
		m.regs[x.Dst] = x.N
	case ir.Copy:
		m.regs[x.Dst] = m.regs[x.A]
	case ir.Do:
		n, ok := x.Op.Do(m.regs[x.A], m.regs[x.B])
		if !ok {
			return false
		}
		m.regs[x.Dst] = n
	case ir.In:
		if len(m.in) == 0 {
			return false
		}
		m.regs[x.Dst], m.in = m.in[0], m.in[1:]
	case ir.Out:
		m.outcome.Trace = append(m.outcome.Trace, m.regs[x.A])
	case ir.Load:
		m.regs[x.Dst] = m.slots[x.Slot]
	case ir.Store:
		m.slots[x.Slot] = m.regs[x.A]
	default:
		return m.remember(x)
	}
	return true
}

// remember: a Get or a Put; false: there is no such place.
func (m *machine) remember(x *ir.Instr) bool {
	place := m.regs[x.A]
	if place < 0 || place >= api.Memory {
		return false
	}
	if x.Kind == ir.Get {
		m.regs[x.Dst] = m.memory[place]
	} else {
		m.memory[place] = m.regs[x.B]
	}
	return true
}

// along: what the phis at a way's end do. All that they read is read ahead of the first that is set.
func (m *machine) along(w *way) int {
	regs, held := m.regs, m.held
	for i, x := range w.moves {
		held[i] = regs[x.read]
	}
	for i, x := range w.moves {
		regs[x.set] = held[i]
	}
	return w.to
}
