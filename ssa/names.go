package ssa

import (
	"slices"

	"refinery/dom"
	"refinery/graph"
	"refinery/ir"
)

// naming is the way down a program's tree, on which each place that sets a register gets the next one for it.
type naming struct {
	next  int
	unset int           // a register that nobody sets
	names map[int][]int // of each register those that stand for it on this way, the one that was set last behind
	way   []int         // the registers that are set on this way, in order
	ends  []int         // of each block how many of them there are at its end
}

// rename: each register set at one place, from 0 on, in the tree's order.
func rename(p ir.Program, g graph.Graph, t dom.Tree) {
	// There are fewer that are set than Count. What isn't set is 0, as it was: that counts where a program isn't sure.
	n := naming{unset: p.Count(), names: map[int][]int{}, ends: make([]int, len(p.Blocks))}
	for i := range t.All() {
		n.back(t.Up(i))
		n.block(&p.Blocks[i])
		n.ends[i] = len(n.way)
		for _, next := range g.Behind(i) {
			n.enter(p.Blocks[next].Phis, p.Blocks[i].Label)
		}
	}
}

// back: up to a block's end: what was set below it, or beside it, isn't on the way to those below it that are still to come.
func (n *naming) back(place int) {
	count := 0
	if place >= 0 {
		count = n.ends[place]
	}
	for _, r := range n.way[count:] {
		n.names[r] = n.names[r][:len(n.names[r])-1]
	}
	n.way = n.way[:count]
}

func (n *naming) block(b *ir.Block) {
	for i := range b.Phis {
		b.Phis[i].Dst = n.set(b.Phis[i].Dst)
	}
	for i, x := range b.Instrs {
		// What it reads comes first, as it may set the same register.
		x = x.Turned(n.read)
		if r, ok := x.Sets(); ok {
			x.Dst = n.set(r)
		}
		b.Instrs[i] = x
	}
	if r, ok := b.Last.Reads(); ok {
		b.Last.A = n.read(r)
	}
}

// enter: what phis have from the block at whose end one is.
func (n *naming) enter(phis []ir.Phi, label int) {
	for _, x := range phis {
		if k, ok := slices.BinarySearch(x.From, label); ok {
			x.Args[k] = n.read(x.Args[k])
		}
	}
}

func (n *naming) set(r int) int {
	name := n.next
	n.next++
	n.names[r] = append(n.names[r], name)
	n.way = append(n.way, r)
	return name
}

func (n *naming) read(r int) int {
	if l := n.names[r]; len(l) > 0 {
		return l[len(l)-1]
	}
	return n.unset
}
