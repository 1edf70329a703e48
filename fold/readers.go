package fold

import "refinery/ir"

// readers are the places that read each register: one by one, so that a long phi isn't gone through again for each entry that rises.
type readers struct {
	entries map[int][]entry
	instrs  map[int][]spot
	ends    map[int][]int
}

// entry is one of a phi.
type entry struct{ block, phi, place int }

// spot is an instruction's.
type spot struct{ block, instr int }

func readersOf(p ir.Program) readers {
	l := readers{entries: map[int][]entry{}, instrs: map[int][]spot{}, ends: map[int][]int{}}
	for i, b := range p.Blocks {
		for j, x := range b.Phis {
			for k, r := range x.Args {
				l.entries[r] = append(l.entries[r], entry{i, j, k})
			}
		}
		for j, x := range b.Instrs {
			for _, r := range x.Reads() {
				l.instrs[r] = append(l.instrs[r], spot{i, j})
			}
		}
		if r, ok := b.Last.Reads(); ok {
			l.ends[r] = append(l.ends[r], i)
		}
	}
	return l
}
