package ir

import (
	"iter"
	"slices"
)

func (x Phi) same(y Phi) bool {
	return x.Dst == y.Dst && slices.Equal(x.From, y.From) && slices.Equal(x.Args, y.Args)
}

// Same: two programs.
func Same(p, q Program) bool {
	return slices.EqualFunc(p.Blocks, q.Blocks, func(b, c Block) bool {
		return b.Label == c.Label && b.Last == c.Last &&
			slices.Equal(b.Instrs, c.Instrs) && slices.EqualFunc(b.Phis, c.Phis, Phi.same)
	})
}

// Clone: a program of its own.
func (p Program) Clone() Program {
	q := Program{Blocks: slices.Clone(p.Blocks)}
	for i := range q.Blocks {
		b := &q.Blocks[i]
		b.Phis = slices.Clone(b.Phis)
		b.Instrs = slices.Clone(b.Instrs)
		for j := range b.Phis {
			b.Phis[j].From = slices.Clone(b.Phis[j].From)
			b.Phis[j].Args = slices.Clone(b.Phis[j].Args)
		}
	}
	return q
}

// Instrs: all instructions, block by block, and where each stands.
func (p Program) Instrs() iter.Seq2[int, Instr] {
	// They are gone through behind this call, when the program handed in may be another: a copy is gone through.
	q := p.Clone()
	return func(yield func(int, Instr) bool) {
		if yield == nil {
			return
		}
		for i, b := range q.Blocks {
			for _, x := range b.Instrs {
				if !yield(i, x) {
					return
				}
			}
		}
	}
}

// Count: how many instructions, phis and ends there are.
func (p Program) Count() int {
	n := len(p.Blocks)
	for _, b := range p.Blocks {
		n += len(b.Phis) + len(b.Instrs)
	}
	return n
}

// Regs: one above the greatest register.
func (p Program) Regs() int {
	n := 0
	for _, b := range p.Blocks {
		n = max(n, b.regs())
	}
	return n
}

func (b Block) regs() int {
	n := 0
	see := func(r int) { n = max(n, r+1) }
	for _, x := range b.Phis {
		see(x.Dst)
		for _, r := range x.Args {
			see(r)
		}
	}
	for _, x := range b.Instrs {
		if r, ok := x.Sets(); ok {
			see(r)
		}
		for _, r := range x.Reads() {
			see(r)
		}
	}
	if r, ok := b.Last.Reads(); ok {
		see(r)
	}
	return n
}

// Plain: has it no phi?
func (p Program) Plain() bool {
	for _, b := range p.Blocks {
		if len(b.Phis) > 0 {
			return false
		}
	}
	return true
}
