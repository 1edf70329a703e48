package live

import (
	"refinery/bag"
	"refinery/graph"
	"refinery/ir"
)

// roots are the places where a register is live whatever is live behind them: at the beginning, as the block reads it ahead of setting it; at the end, as phis behind have it from there.
type roots struct {
	begin, end []int
}

// flow is a program's blocks by their places, and what is found to be live there.
type flow struct {
	ahead      [][]int
	sets, phis []bag.Set[int] // what each one's instructions set, what its phis set
	roots      map[int]roots  // by registers
	live       Sets
}

func laid(p ir.Program) flow {
	n := len(p.Blocks)
	f := flow{
		ahead: make([][]int, n),
		sets:  make([]bag.Set[int], n),
		phis:  make([]bag.Set[int], n),
		roots: map[int]roots{},
		live:  Sets{In: make([]bag.Set[int], n), Out: make([]bag.Set[int], n)},
	}
	g := graph.Of(p)
	for i, b := range p.Blocks {
		f.ahead[i] = g.Ahead(i)
		f.sets[i] = setBy(b.Instrs)
		f.phis[i] = setByPhis(b.Phis)
		f.beginRoots(i, Each(b, bag.Set[int]{}, nil))
		from := handed(b.Phis)
		for _, a := range f.ahead[i] {
			f.endRoots(a, from[p.Blocks[a].Label])
		}
	}
	return f
}

func setBy(l []ir.Instr) bag.Set[int] {
	var regs []int
	for _, x := range l {
		if r, ok := x.Sets(); ok {
			regs = append(regs, r)
		}
	}
	return bag.Of(regs...)
}

func setByPhis(l []ir.Phi) bag.Set[int] {
	var regs []int
	for _, x := range l {
		regs = append(regs, x.Dst)
	}
	return bag.Of(regs...)
}

// handed: of each label the registers that phis have from it.
func handed(l []ir.Phi) map[int]bag.Set[int] {
	lists := map[int][]int{}
	for _, x := range l {
		// In a program that may not be one list may be the longer.
		for k := range min(len(x.From), len(x.Args)) {
			lists[x.From[k]] = append(lists[x.From[k]], x.Args[k])
		}
	}
	sets := map[int]bag.Set[int]{}
	for label, regs := range lists {
		sets[label] = bag.Of(regs...)
	}
	return sets
}

func (f flow) beginRoots(place int, regs bag.Set[int]) {
	for r := range regs.All() {
		at := f.roots[r]
		at.begin = append(at.begin, place)
		f.roots[r] = at
	}
}

func (f flow) endRoots(place int, regs bag.Set[int]) {
	for r := range regs.All() {
		at := f.roots[r]
		at.end = append(at.end, place)
		f.roots[r] = at
	}
}

// spread: a register is put in from its roots on back, till it is set. Each place is gone back from once, so that it takes as long as the answer is great, however the rounds are.
func (f flow) spread(r int) {
	var open []int
	begin := func(i int) {
		if f.live.In[i].Add(r) {
			open = append(open, i)
		}
	}
	end := func(i int) {
		if f.live.Out[i].Add(r) && !f.sets[i].Has(r) {
			begin(i)
		}
	}
	for _, i := range f.roots[r].begin {
		begin(i)
	}
	for _, i := range f.roots[r].end {
		end(i)
	}
	for len(open) > 0 {
		i := open[len(open)-1]
		open = open[:len(open)-1]
		if f.phis[i].Has(r) {
			continue
		}
		for _, a := range f.ahead[i] {
			end(a)
		}
	}
}
