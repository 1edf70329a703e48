package strict

import (
	"refinery/dom"
	"refinery/ir"
)

// spot is where something is set or read: a block's place, and a row in it, so that what a lesser row sets is set ahead.
type spot struct {
	block, row int
}

// All phis of a block are one row, as they set their registers at once.
func phis(place int) spot { return spot{place, 0} }

func instr(place, i int) spot { return spot{place, 1 + i} }

func end(p ir.Program, place int) spot { return instr(place, len(p.Blocks[place].Instrs)) }

// setters: where each register is set; false: one is set at two places.
func setters(p ir.Program) (map[int]spot, bool) {
	at := map[int]spot{}
	count := 0
	set := func(r int, s spot) {
		at[r] = s
		count++
	}
	for i, b := range p.Blocks {
		for _, x := range b.Phis {
			set(x.Dst, phis(i))
		}
		for j, x := range b.Instrs {
			if r, ok := x.Sets(); ok {
				set(r, instr(i, j))
			}
		}
	}
	return at, len(at) == count
}

// known is where registers are set, each at one place, and which block is over which.
type known struct {
	at   map[int]spot
	tree dom.Tree
}

// ahead: is a register set ahead of a spot, on each way to it?
func (k known) ahead(r int, s spot) bool {
	set, ok := k.at[r]
	switch {
	case !ok:
		return false
	case set.block == s.block:
		// A block is over itself, but what it sets behind the spot isn't set yet when one comes here first.
		return set.row < s.row
	}
	return k.tree.Over(set.block, s.block)
}
