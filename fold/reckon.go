package fold

import (
	"slices"

	"refinery/bag"
	"refinery/ir"
)

// reckoning is what is told so far: at first nothing is known and no block is there; facts only rise, blocks only come.
type reckoning struct {
	p     ir.Program
	at    map[int]int // the place of each label
	reads readers
	empty Fact // of phis without entries
	facts map[int]Fact
	there []bool
	ways  []bag.Set[int] // of each block the labels at which it may go on
	came  bag.Queue[int] // blocks that are there, to be gone through
	rose  bag.Queue[int] // registers whose fact rose, to be told to those that read them
}

// reckon: the least facts, of a program that may be; phis without entries have the one that is handed in.
func reckon(p ir.Program, empty Fact) *reckoning {
	n := len(p.Blocks)
	k := &reckoning{p: p, at: places(p), reads: readersOf(p), empty: empty, facts: map[int]Fact{}, there: make([]bool, n), ways: make([]bag.Set[int], n)}
	k.come(0)
	for i := range k.came.Drain() {
		k.goThrough(i)
		for r := range k.rose.Drain() {
			k.tell(r)
		}
	}
	return k
}

func places(p ir.Program) map[int]int {
	at := map[int]int{}
	for i, b := range p.Blocks {
		at[b.Label] = i
	}
	return at
}

func (k *reckoning) come(i int) {
	if !k.there[i] {
		k.there[i] = true
		k.came.Put(i)
	}
}

// goThrough: a block that has come; what its phis have from those ahead is told when one comes from these.
func (k *reckoning) goThrough(i int) {
	for _, x := range k.p.Blocks[i].Phis {
		if len(x.From) == 0 {
			k.raise(x.Dst, k.empty)
		}
	}
	for _, x := range k.p.Blocks[i].Instrs {
		k.set(x)
	}
	k.goOn(i)
}

// raise: what was told of a register holds beside what is told now, so that facts only rise, even where one is set at two places.
func (k *reckoning) raise(r int, f Fact) {
	was := k.facts[r]
	now := Meet(was, f)
	k.facts[r] = now
	if now != was {
		k.rose.Put(r)
	}
}

func (k *reckoning) set(x ir.Instr) {
	if r, ok := x.Sets(); ok {
		k.raise(r, k.made(x))
	}
}

// made: what is known of what an instruction sets.
func (k *reckoning) made(x ir.Instr) Fact {
	switch x.Kind {
	case ir.Const:
		return Fact{State: Known, N: x.N}
	case ir.Copy:
		return k.facts[x.A]
	case ir.Do:
		return done(x.Op, k.facts[x.A], k.facts[x.B])
	}
	return Fact{State: Any}
}

// goOn: one comes to where a block may go on now, and didn't yet.
func (k *reckoning) goOn(i int) {
	for _, label := range k.labels(k.p.Blocks[i].Last) {
		if k.ways[i].Add(label) {
			k.enter(i, k.at[label])
		}
	}
}

// labels: where an end may go on, by what is known.
func (k *reckoning) labels(l ir.Last) []int {
	if l.End != ir.Branch {
		return l.Labels()
	}
	switch f := k.facts[l.A]; f.State {
	case Unknown:
		return nil
	case Known:
		return gone(l, f.N).Labels()
	}
	return l.Labels()
}

func (k *reckoning) enter(from, to int) {
	label := k.p.Blocks[from].Label
	for _, x := range k.p.Blocks[to].Phis {
		if j, ok := slices.BinarySearch(x.From, label); ok {
			k.raise(x.Dst, k.facts[x.Args[j]])
		}
	}
	k.come(to)
}

// tell: a register's fact to all that read it, and are there.
func (k *reckoning) tell(r int) {
	for _, e := range k.reads.entries[r] {
		b := k.p.Blocks[e.block]
		x := b.Phis[e.phi]
		if k.ways[k.at[x.From[e.place]]].Has(b.Label) {
			k.raise(x.Dst, k.facts[r])
		}
	}
	for _, s := range k.reads.instrs[r] {
		if k.there[s.block] {
			k.set(k.p.Blocks[s.block].Instrs[s.instr])
		}
	}
	for _, i := range k.reads.ends[r] {
		if k.there[i] {
			k.goOn(i)
		}
	}
}
