package run

import (
	"slices"

	"refinery/ir"
)

// move is what a phi does, if one comes by a certain way: which register it sets, and which it reads.
type move struct {
	set, read int
}

// way is one by which one goes from a block to another: the place of that one, and what its phis do.
type way struct {
	to    int
	moves []move
}

// ways are a program's, two of each block. What labels mean is looked up when one first goes a way, and not again: there may be very many phis, and very many rounds.
type ways struct {
	blocks []ir.Block
	places map[int]int
	none   int
	known  [][2]*way
}

// waysOf: a phi that doesn't have the label of the block one comes from reads the register none.
func waysOf(p ir.Program, none int) ways {
	places := map[int]int{}
	for i, b := range p.Blocks {
		places[b.Label] = i
	}
	return ways{p.Blocks, places, none, make([][2]*way, len(p.Blocks))}
}

func (w ways) yes(at int) *way {
	return w.by(at, 0, w.blocks[at].Last.Yes)
}

func (w ways) no(at int) *way {
	return w.by(at, 1, w.blocks[at].Last.No)
}

func (w ways) by(at, side, label int) *way {
	if w.known[at][side] == nil {
		w.known[at][side] = w.made(w.blocks[at].Label, w.places[label])
	}
	return w.known[at][side]
}

func (w ways) made(from, to int) *way {
	phis := w.blocks[to].Phis
	moves := make([]move, len(phis))
	for i, x := range phis {
		moves[i] = move{x.Dst, w.readBy(x, from)}
	}
	return &way{to, moves}
}

func (w ways) readBy(x ir.Phi, from int) int {
	// A phi's labels rise in a program that may be.
	if i, ok := slices.BinarySearch(x.From, from); ok {
		return x.Args[i]
	}
	return w.none
}
