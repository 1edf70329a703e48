package strict

import (
	"slices"

	"refinery/api"
	"refinery/ir"
)

// setBy, readAtEnd: chapter 3's Sets and Reads, as lists.
func setBy(x ir.Instr) []int {
	if r, ok := x.Sets(); ok {
		return []int{r}
	}
	return nil
}

func readAtEnd(l ir.Last) []int {
	if r, ok := l.Reads(); ok {
		return []int{r}
	}
	return nil
}

// ways: of a program's blocks, by their places, those at which each one goes on.
type ways [][]int

func waysOf(p ir.Program) ways {
	at := map[int]int{}
	for i, b := range p.Blocks {
		at[b.Label] = i
	}
	w := make(ways, len(p.Blocks))
	for i, b := range p.Blocks {
		for _, label := range b.Last.Labels() {
			w[i] = append(w[i], at[label])
		}
	}
	return w
}

// come: to which blocks one comes from the first, without one of them.
func (w ways) come(without int) []bool {
	met := make([]bool, len(w))
	var meet func(i int)
	meet = func(i int) {
		if i == without || met[i] {
			return
		}
		met[i] = true
		for _, next := range w[i] {
			meet(next)
		}
	}
	meet(0)
	return met
}

// over: of each block to which blocks one doesn't come without it.
func (w ways) over() [][]bool {
	l := make([][]bool, len(w))
	for i := range w {
		for _, met := range w.come(i) {
			l[i] = append(l[i], !met)
		}
	}
	return l
}

// settings: how often a block sets a register by its phis and the first so many instructions.
func settings(b ir.Block, r, instrs int) int {
	n := 0
	for _, x := range b.Phis {
		if x.Dst == r {
			n++
		}
	}
	for _, x := range b.Instrs[:instrs] {
		if slices.Contains(setBy(x), r) {
			n++
		}
	}
	return n
}

// formFault: isn't a block reached, or does one go on at the first?
func formFault(w ways) bool {
	return slices.Contains(w.come(-1), false) || slices.ContainsFunc(w, func(l []int) bool { return slices.Contains(l, 0) })
}

func twiceFault(p ir.Program) bool {
	count := map[int]int{}
	for _, b := range p.Blocks {
		for _, x := range b.Phis {
			count[x.Dst]++
		}
		for _, x := range b.Instrs {
			for _, r := range setBy(x) {
				count[r]++
			}
		}
	}
	for _, n := range count {
		if n > 1 {
			return true
		}
	}
	return false
}

func labelsFault(p ir.Program, w ways) bool {
	for i, b := range p.Blocks {
		var labels []int
		for j, l := range w {
			if slices.Contains(l, i) {
				labels = append(labels, p.Blocks[j].Label)
			}
		}
		slices.Sort(labels)
		for _, x := range b.Phis {
			if !slices.Equal(x.From, labels) {
				return true
			}
		}
	}
	return false
}

// unsetFault: is a register read that isn't set ahead: ahead in its block, or in another one that is over it?
func unsetFault(p ir.Program, w ways) bool {
	over := w.over()
	// Of each register the blocks that set it, so that not all are asked each time.
	in := map[int][]int{}
	for i, b := range p.Blocks {
		for _, x := range b.Phis {
			in[x.Dst] = append(in[x.Dst], i)
		}
		for _, x := range b.Instrs {
			for _, r := range setBy(x) {
				in[r] = append(in[r], i)
			}
		}
	}
	unset := func(r, i, instrs int) bool {
		return settings(p.Blocks[i], r, instrs) == 0 && !slices.ContainsFunc(in[r], func(j int) bool { return j != i && over[j][i] })
	}
	for i, b := range p.Blocks {
		for _, x := range b.Phis {
			for k, label := range x.From {
				j := slices.IndexFunc(p.Blocks, func(c ir.Block) bool { return c.Label == label })
				if unset(x.Args[k], j, len(p.Blocks[j].Instrs)) {
					return true
				}
			}
		}
		for j, x := range b.Instrs {
			if slices.ContainsFunc(x.Reads(), func(r int) bool { return unset(r, i, j) }) {
				return true
			}
		}
		if slices.ContainsFunc(readAtEnd(b.Last), func(r int) bool { return unset(r, i, len(b.Instrs)) }) {
			return true
		}
	}
	return false
}

// plain: P17.1's words, one after the other.
func plain(p ir.Program) api.Errno {
	if err := p.Check(); err != api.OK {
		return err
	}
	w := waysOf(p)
	switch {
	case formFault(w):
		return api.ErrForm
	case twiceFault(p):
		return api.ErrTwice
	case labelsFault(p, w):
		return api.ErrForm
	case unsetFault(p, w):
		return api.ErrUnset
	}
	return api.OK
}

// come is that one has come to a block with some registers set, a bit each.
type come struct {
	place int
	set   uint64
}

// goneUnset: all ways from the first block on are gone, with what is set on them: is a register read that isn't? (Of a program, all blocks of which are reached, of registers below 64.) Where each is set at one place that asks the same as blocks that are over others.
func goneUnset(p ir.Program) bool {
	w := waysOf(p)
	seen := map[come]bool{}
	open := []come{{}}
	for len(open) > 0 {
		c := open[0]
		open = open[1:]
		if seen[c] {
			continue
		}
		seen[c] = true
		b := p.Blocks[c.place]
		set := c.set
		unset := func(r int) bool { return set>>r&1 == 0 }
		for _, x := range b.Phis {
			set |= 1 << x.Dst
		}
		for _, x := range b.Instrs {
			if slices.ContainsFunc(x.Reads(), unset) {
				return true
			}
			for _, r := range setBy(x) {
				set |= 1 << r
			}
		}
		if slices.ContainsFunc(readAtEnd(b.Last), unset) {
			return true
		}
		for _, i := range w[c.place] {
			for _, x := range p.Blocks[i].Phis {
				if k := slices.Index(x.From, b.Label); k >= 0 && unset(x.Args[k]) {
					return true
				}
			}
			open = append(open, come{i, set})
		}
	}
	return false
}
