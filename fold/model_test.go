package fold

import (
	"maps"
	"slices"
	"testing"

	"refinery/api"
	"refinery/ir"
	"refinery/run"
	"refinery/show"
	"refinery/strict"
	"refinery/word"
)

// found is what is told of a program, by the chapter's words: facts, and blocks by their places.
type found struct {
	facts map[int]Fact
	there []bool
}

func (f found) same(g found) bool {
	return slices.Equal(f.there, g.there) && maps.Equal(told(f.facts), told(g.facts))
}

// goesOn: may one go on by an end at a label?
func (f found) goesOn(l ir.Last, label int) bool {
	switch l.End {
	case ir.Jump:
		return l.Yes == label
	case ir.Branch:
		switch a := f.facts[l.A]; {
		case a.State == Unknown:
			return false
		case a.State == Known && a.N != 0:
			return l.Yes == label
		case a.State == Known:
			return l.No == label
		}
		return l.Yes == label || l.No == label
	}
	return false
}

// comes: does one come from the block of a label to another one?
func (f found) comes(p ir.Program, from, to int) bool {
	for i, b := range p.Blocks {
		if b.Label == from && f.there[i] && f.goesOn(b.Last, to) {
			return true
		}
	}
	return false
}

// plainMeet: of any facts by their states.
func plainMeet(l []Fact) Fact {
	l = slices.DeleteFunc(l, func(f Fact) bool { return f.State == Unknown })
	if len(l) == 0 {
		return none
	}
	for _, f := range l {
		if f.State == Any || f.N != l[0].N {
			return every
		}
	}
	return l[0]
}

// of: what an instruction sets, by what is known.
func (f found) of(x ir.Instr) Fact {
	a, b := f.facts[x.A], f.facts[x.B]
	switch {
	case x.Kind == ir.Const:
		return known(x.N)
	case x.Kind == ir.Copy:
		return a
	case x.Kind == ir.Do && (a.State == Unknown || b.State == Unknown):
		return none
	case x.Kind == ir.Do && a.State == Known && b.State == Known:
		if n, ok := x.Op.Do(a.N, b.N); ok {
			return known(n)
		}
	}
	return every
}

// next: by each sentence of the chapter what is there, and known, if this is so.
func (f found) next(p ir.Program) found {
	g := found{facts: map[int]Fact{}, there: make([]bool, len(p.Blocks))}
	for i, b := range p.Blocks {
		g.there[i] = i == 0 || slices.ContainsFunc(p.Blocks, func(c ir.Block) bool { return f.comes(p, c.Label, b.Label) })
		if !f.there[i] {
			continue
		}
		for _, x := range b.Phis {
			var l []Fact
			for k, label := range x.From {
				if f.comes(p, label, b.Label) {
					l = append(l, f.facts[x.Args[k]])
				}
			}
			g.facts[x.Dst] = plainMeet(l)
		}
		for _, x := range b.Instrs {
			if r, ok := x.Sets(); ok {
				g.facts[r] = f.of(x)
			}
		}
	}
	return g
}

// plainFacts: from nothing on, again and again, till it is so.
func plainFacts(p ir.Program) found {
	f := found{facts: map[int]Fact{}, there: make([]bool, len(p.Blocks))}
	for {
		g := f.next(p)
		if g.same(f) {
			return g
		}
		f = g
	}
}

// begun: the phis without entries are Consts: a run sets them to 0.
func begun(p ir.Program) ir.Program {
	q := p.Clone()
	for i := range q.Blocks {
		b := &q.Blocks[i]
		var l []ir.Instr
		for _, x := range b.Phis {
			if len(x.From) == 0 {
				l = append(l, number(x.Dst, 0))
			}
		}
		b.Phis = slices.DeleteFunc(b.Phis, func(x ir.Phi) bool { return len(x.From) == 0 })
		b.Instrs = append(l, b.Instrs...)
	}
	return q
}

// plainKnown: what is Known, but what isn't so in each run, because it is without a phi without entries.
func plainKnown(p ir.Program) map[int]int64 {
	l := map[int]int64{}
	so := plainFacts(begun(p)).facts
	for r, f := range plainFacts(p).facts {
		if f.State == Known && so[r] == f {
			l[r] = f.N
		}
	}
	return l
}

// plainFold: by the chapter's words, of a strict program.
func plainFold(p ir.Program) ir.Program {
	known := plainKnown(p)
	q := p.Clone()
	for i := range q.Blocks {
		b := &q.Blocks[i]
		var ahead []ir.Instr
		for _, x := range b.Phis {
			if n, ok := known[x.Dst]; ok {
				ahead = append(ahead, number(x.Dst, n))
			}
		}
		b.Phis = slices.DeleteFunc(b.Phis, func(x ir.Phi) bool { _, ok := known[x.Dst]; return ok })
		for j, x := range b.Instrs {
			r, sets := x.Sets()
			if n, ok := known[r]; ok && sets {
				b.Instrs[j] = number(r, n)
			}
		}
		b.Instrs = append(ahead, b.Instrs...)
		if n, ok := known[b.Last.A]; ok && b.Last.End == ir.Branch {
			b.Last = jump(b.Last.No)
			if n != 0 {
				b.Last = jump(p.Blocks[i].Last.Yes)
			}
		}
	}
	return plainReached(q)
}

// plainReached: chapter 14's, by its words.
func plainReached(p ir.Program) ir.Program {
	goes := func(b ir.Block, label int) bool { return slices.Contains(b.Last.Labels(), label) }
	met := map[int]int{p.Blocks[0].Label: 1}
	for range p.Blocks {
		for _, b := range p.Blocks {
			for _, label := range b.Last.Labels() {
				met[label] |= met[b.Label]
			}
		}
	}
	var q ir.Program
	for _, b := range p.Clone().Blocks {
		if met[b.Label] == 1 {
			q.Blocks = append(q.Blocks, b)
		}
	}
	for _, b := range q.Blocks {
		for j, x := range b.Phis {
			var y [][2]int
			for k, label := range x.From {
				if slices.ContainsFunc(q.Blocks, func(c ir.Block) bool { return c.Label == label && goes(c, b.Label) }) {
					y = append(y, [2]int{label, x.Args[k]})
				}
			}
			b.Phis[j] = phi(x.Dst, y...)
		}
	}
	return q
}

// is: are two programs the same?
func is(t *testing.T, promise string, what any, p, want ir.Program) {
	t.Helper()
	if !ir.Same(p, want) {
		t.Errorf("%s: %+v:\n%s, not\n%s", promise, what, show.Program(p), show.Program(want))
	}
}

// holds: Facts and Fold of a strict program, against the chapter's words; what is folded is strict; the program is as it was.
func holds(t *testing.T, what any, p ir.Program) ir.Program {
	t.Helper()
	before := p.Clone()
	var f found
	f.facts, f.there = Facts(p)
	if want := plainFacts(p); !f.same(want) {
		t.Errorf("P18.1: %+v: %v, not %v", what, f, want)
	}
	if len(f.there) == len(p.Blocks) && !f.same(f.next(p)) {
		t.Errorf("P18.1: %+v: %v isn't so: %v", what, f, f.next(p))
	}
	q := Fold(p)
	is(t, "P18.2", what, q, plainFold(p))
	is(t, "R8: twice", what, Fold(p), q)
	is(t, "R6: what was handed in", what, p, before)
	if err := strict.Check(q); err != api.OK {
		t.Errorf("P4: %+v: error %d of\n%s", what, err, show.Program(q))
	}
	return q
}

// guarded: a program that does the same, if what is known is so: behind each place that sets such a register a Do that can't be done, if it isn't; a block that isn't there puts a number of its own out, and traps.
func guarded(p ir.Program, facts map[int]Fact, there []bool) ir.Program {
	q := p.Clone()
	next := p.Regs()
	for i := range q.Blocks {
		b := &q.Blocks[i]
		if !there[i] {
			b.Instrs, b.Last = []ir.Instr{number(next, 987654321), output(next)}, trap()
			next++
			continue
		}
		var l []ir.Instr
		guard := func(r int) {
			if f := facts[r]; f.State == Known {
				l = append(l, number(next, f.N), do(word.Eq, next+1, r, next), do(word.Div, next+2, next, next+1))
				next += 3
			}
		}
		for _, x := range b.Phis {
			guard(x.Dst)
		}
		for _, x := range b.Instrs {
			l = append(l, x)
			if r, ok := x.Sets(); ok {
				guard(r)
			}
		}
		b.Instrs = l
	}
	return q
}

// within: P3: if p ends within so much fuel, q does alike within as many steps as it says; if neither may, what they put out is the same as far as it goes.
func within(t *testing.T, what any, p, q ir.Program, in []int64, fuel int) run.Outcome {
	t.Helper()
	o := run.Run(p, in, fuel)
	most := (o.Steps + 1) * (q.Count() + 1)
	r := run.Run(q, in, most)
	if o.End == run.Spent {
		if n := min(len(o.Trace), len(r.Trace)); r.End == run.Spent && !slices.Equal(o.Trace[:n], r.Trace[:n]) {
			t.Errorf("P3: %+v, inputs %v: %v, not %v", what, in, r.Trace, o.Trace)
		}
		return o
	}
	if most < run.Most && !run.Same(o, r) {
		t.Errorf("P3: %+v, inputs %v: %+v, not %+v:\n%s", what, in, r, o, show.Program(q))
	}
	return o
}

// acts: with these inputs a folded program does what it did, and what is known of it is so.
func acts(t *testing.T, what any, p, q ir.Program, in []int64, fuel int) run.Outcome {
	t.Helper()
	o := within(t, what, p, q, in, fuel)
	within(t, what, q, p, in, fuel)
	// Of a phi without entries nothing is known, though a run sets it: of such a program it is asked what is known of the one that begins with numbers instead.
	facts, there := Facts(begun(p))
	within(t, what, p, guarded(p, facts, there), in, fuel)
	return o
}
