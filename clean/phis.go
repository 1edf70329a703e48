package clean

import (
	"cmp"
	"slices"

	"refinery/ir"
)

// labels are those of some blocks.
type labels map[int]struct{}

func labelsOf(p ir.Program, places []int) labels {
	l := labels{}
	for _, i := range places {
		l[p.Blocks[i].Label] = struct{}{}
	}
	return l
}

func (l labels) has(label int) bool {
	_, ok := l[label]
	return ok
}

// entry is one of a phi's: its register, and the label from which it comes.
type entry struct {
	from, arg int
}

// entries: in a program that may not be one list may be the longer: what both have counts.
func entries(x ir.Phi) []entry {
	l := make([]entry, min(len(x.From), len(x.Args)))
	for i := range l {
		l[i] = entry{x.From[i], x.Args[i]}
	}
	return l
}

func phi(dst int, l []entry) ir.Phi {
	x := ir.Phi{Dst: dst, From: make([]int, len(l)), Args: make([]int, len(l))}
	for i, e := range l {
		x.From[i], x.Args[i] = e.from, e.arg
	}
	return x
}

// onlyFrom: a phi, without the entries of other labels.
func onlyFrom(x ir.Phi, have labels) ir.Phi {
	return phi(x.Dst, slices.DeleteFunc(entries(x), func(e entry) bool { return !have.has(e.from) }))
}

// names are labels, and those that stand instead of them.
type names map[int]int

// rename: all new labels of a block's phis at once, so that each phi is laid anew no more than once, however many blocks are ahead.
func rename(phis []ir.Phi, instead names) {
	if len(instead) == 0 {
		return
	}
	for i, x := range phis {
		phis[i] = renamed(x, instead)
	}
}

func renamed(x ir.Phi, instead names) ir.Phi {
	l := entries(x)
	for i := range l {
		if label, ok := instead[l[i].from]; ok {
			l[i].from = label
		}
	}
	// A phi's labels are to rise, and the new ones are above all others.
	slices.SortFunc(l, func(a, b entry) int { return cmp.Compare(a.from, b.from) })
	return phi(x.Dst, l)
}
