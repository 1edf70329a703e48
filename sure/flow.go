package sure

import (
	"refinery/bag"
	"refinery/graph"
	"refinery/ir"
)

// most is how many items the sets have in all at most: far more than those of any program that may be, and few enough that there is room for them.
const most = 1 << 25

// flow is a program's blocks by their places.
type flow struct {
	reached []int
	behind  [][]int
	sets    []bag.Set[int]   // what the instructions of each one that is reached set
	regs    map[int]struct{} // what they all set
}

func laid(p ir.Program) flow {
	n := len(p.Blocks)
	f := flow{
		behind: make([][]int, n),
		sets:   make([]bag.Set[int], n),
		regs:   map[int]struct{}{},
	}
	g := graph.Of(p)
	for i := range g.First() {
		f.reached = append(f.reached, i)
		f.behind[i] = g.Behind(i)
		f.sets[i] = setBy(p.Blocks[i].Instrs)
		for r := range f.sets[i].All() {
			f.regs[r] = struct{}{}
		}
	}
	return f
}

func setBy(l []ir.Instr) bag.Set[int] {
	var regs []int
	for _, x := range l {
		if r, ok := x.Sets(); ok {
			regs = append(regs, r)
		}
	}
	return bag.Of(regs...)
}

// tooGreat: each of many blocks may set a register of its own, that is sure in all behind it: of a program that may not be there would be no room for the answer.
func (f flow) tooGreat() bool {
	return len(f.regs) > 0 && len(f.behind) > most/len(f.regs)
}

// without: where one may come to the beginning with a register not set: from the first block, through blocks alone that don't set it. Rounds need no second look: each place is gone on from once.
func (f flow) without(r int) []bool {
	unset := make([]bool, len(f.behind))
	open := []int{0}
	unset[0] = true
	for len(open) > 0 {
		i := open[len(open)-1]
		open = open[:len(open)-1]
		if f.sets[i].Has(r) {
			continue
		}
		for _, next := range f.behind[i] {
			if !unset[next] {
				unset[next] = true
				open = append(open, next)
			}
		}
	}
	return unset
}
