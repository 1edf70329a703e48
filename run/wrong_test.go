package run

import (
	"fmt"
	"math"
	"slices"
	"testing"

	"refinery/api"
	"refinery/ir"
	"refinery/word"
)

// wrong: of a program that may not be: Trapped, and nothing else, with whatever inputs and fuel.
func wrong(t *testing.T, what any, p ir.Program) {
	t.Helper()
	if p.Check() == api.OK {
		t.Errorf("P13.1: %v: it may be: %+v", what, p)
	}
	for _, fuel := range []int{math.MinInt, -1, 0, 1, 100, math.MaxInt} {
		for _, in := range [][]int64{nil, {1, 2, 3}} {
			ends(t, fmt.Sprint(what, ", fuel ", fuel), Run(p, in, fuel), Outcome{End: Trapped})
		}
	}
}

// busy: a program of three blocks that puts out and returns, and doesn't come to the last block.
func busy() ir.Program {
	return ir.Program{Blocks: []ir.Block{
		{Instrs: []ir.Instr{{Dst: 1, N: 5}, {Kind: ir.Out, A: 1}}, Last: jump(1)},
		{Label: 1, Instrs: []ir.Instr{{Kind: ir.Out, A: 1}}, Last: ret(1)},
		{Label: 2, Last: ir.Last{End: ir.Trap}},
	}}
}

// fault is a change that makes a program one that may not be, at a block.
type fault struct {
	name string
	make func(p *ir.Program, at int)
}

func faults() []fault {
	put := func(x ir.Instr) func(*ir.Program, int) {
		return func(p *ir.Program, at int) { p.Blocks[at].Instrs = append(p.Blocks[at].Instrs, x) }
	}
	end := func(l ir.Last) func(*ir.Program, int) {
		return func(p *ir.Program, at int) { p.Blocks[at].Last = l }
	}
	phi := func(x ir.Phi) func(*ir.Program, int) {
		return func(p *ir.Program, at int) { p.Blocks[at].Phis = append(p.Blocks[at].Phis, x) }
	}
	return []fault{
		{"no blocks", func(p *ir.Program, at int) { p.Blocks = nil }},
		{"many blocks", func(p *ir.Program, at int) {
			for i := range api.MaxBlocks - 2 {
				p.Blocks = append(p.Blocks, ir.Block{Label: 3 + i})
			}
		}},
		{"many instructions", func(p *ir.Program, at int) {
			p.Blocks[at].Instrs = append(p.Blocks[at].Instrs, make([]ir.Instr, api.MaxInstrs-5)...)
		}},
		{"many phis", func(p *ir.Program, at int) { p.Blocks[at].Phis = make([]ir.Phi, api.MaxInstrs-5) }},
		{"a label below 0", func(p *ir.Program, at int) { p.Blocks[at].Label = -1 }},
		{"a label too great", func(p *ir.Program, at int) { p.Blocks[at].Label = api.MaxLabel }},
		{"a label twice", func(p *ir.Program, at int) { p.Blocks[at].Label = (at + 1) % 3 }},
		{"a phi's lists", phi(ir.Phi{From: []int{0}})},
		{"a phi's other lists", phi(ir.Phi{Args: []int{0}})},
		{"a phi's Dst", phi(ir.Phi{Dst: -1})},
		{"a phi's great Dst", phi(ir.Phi{Dst: api.MaxReg})},
		{"a phi's label", phi(ir.Phi{From: []int{7}, Args: []int{0}})},
		{"a phi's labels", phi(ir.Phi{From: []int{1, 0}, Args: []int{0, 0}})},
		{"a phi's same labels", phi(ir.Phi{From: []int{1, 1}, Args: []int{0, 0}})},
		{"a phi's register", phi(ir.Phi{From: []int{1}, Args: []int{api.MaxReg}})},
		{"a kind", put(ir.Instr{Kind: ir.Kinds})},
		{"a great kind", put(ir.Instr{Kind: 255})},
		{"an op", put(ir.Instr{Kind: ir.Do, Op: word.Ops})},
		{"a form", put(ir.Instr{Kind: ir.Out, Dst: 1})},
		{"a register", put(ir.Instr{Kind: ir.Copy, A: -1})},
		{"a great register", put(ir.Instr{Kind: ir.Const, Dst: api.MaxReg})},
		{"a slot", put(ir.Instr{Kind: ir.Load, Slot: api.Slots})},
		{"a slot below 0", put(ir.Instr{Kind: ir.Store, Slot: -1})},
		{"an end", end(ir.Last{End: ir.Ends})},
		{"a great end", end(ir.Last{End: 255})},
		{"an end's form", end(ir.Last{End: ir.Trap, A: 1})},
		{"an end's register", end(ret(api.MaxReg))},
		{"an end's label", end(jump(7))},
		{"an end's other label", end(branch(1, 1, 7))},
	}
}

// P13.1: programs that may not be, of each fault, also where one doesn't come: Trapped, no step, nothing put out; and R4: they are as they were.
func TestMayNotBe(t *testing.T) {
	does(t, "busy", busy(), nil, returned(5, 5, 5, 5))
	for _, f := range faults() {
		for at := range 3 {
			p := busy()
			f.make(&p, at)
			before := p.Clone()
			wrong(t, fmt.Sprint(f.name, " in ", at), p)
			if !ir.Same(p, before) {
				t.Errorf("R4: %s: the program was changed: %+v", f.name, p)
			}
		}
	}
}

// P13.1: programs at the limits of what may be do run.
func TestAtLimits(t *testing.T) {
	p := busy()
	p.Blocks[0].Instrs = append(p.Blocks[0].Instrs, make([]ir.Instr, api.MaxInstrs-6)...)
	does(t, "4000 in all", p, nil, returned(5, api.MaxInstrs-6+5, 5, 5))
	var row ir.Program
	for i := range api.MaxBlocks {
		row.Blocks = append(row.Blocks, ir.Block{Label: 99999 - i, Instrs: []ir.Instr{{Kind: ir.Out, A: 99999}}, Last: jump(99999 - i - 1)})
	}
	row.Blocks[api.MaxBlocks-1].Last = ret(99999)
	does(t, "400 blocks", row, nil, returned(0, 800, make([]int64, 400)...))
}

// R5, R7: zero values, no blocks, nil and empty lists.
func TestZero(t *testing.T) {
	wrong(t, "R7: a zero program", ir.Program{})
	wrong(t, "R5: no blocks", ir.Program{Blocks: []ir.Block{}})
	wrong(t, "R7: two zero blocks", ir.Program{Blocks: make([]ir.Block, 2)})
	wrong(t, "R7: many zero blocks", ir.Program{Blocks: make([]ir.Block, 500)})
	one := ir.Program{Blocks: make([]ir.Block, 1)}
	ends(t, "R7: a zero block, which goes on at itself", Run(one, nil, 100), spent(100))
	one.Blocks[0] = ir.Block{Phis: []ir.Phi{}, Instrs: []ir.Instr{}, Last: ret(0)}
	ends(t, "R5: empty lists", Run(one, []int64{}, 100), returned(0, 1))
	one.Blocks[0] = ir.Block{Phis: make([]ir.Phi, 3), Instrs: make([]ir.Instr, 3), Last: ret(0)}
	ends(t, "R7: zero phis and instructions", Run(one, nil, 100), returned(0, 4))
	one.Blocks[0].Phis[1] = ir.Phi{From: []int{}, Args: []int{}}
	ends(t, "R5: an empty phi", Run(one, nil, 100), returned(0, 4))
}

// P1: kinds, ends, labels, registers, phis of whatever kind.
func TestWrongAny(t *testing.T) {
	edges := []int{math.MinInt, -1, 0, 0, 1, 1, 2, 2, 63, 64, 99999, 100000, math.MaxInt}
	may := 0
	for seed := range 30000 {
		roll := dice(uint64(seed) + 21)
		edge := func() int { return edges[roll(len(edges))] }
		most := 1
		if seed%3 == 0 {
			most = 8
		}
		var p ir.Program
		for i := range roll(most) + 1 {
			b := ir.Block{Label: i, Last: ir.Last{End: ir.End(roll(6)), A: edge(), Yes: roll(most), No: roll(most)}}
			if roll(2) == 0 {
				b.Label, b.Last.Yes = edge(), edge()
			}
			for range roll(3) {
				x := ir.Instr{Kind: ir.Kind(roll(256)) % 12, Op: word.Op(roll(15)), Dst: edge(), A: edge(), B: edge(), N: int64(edge()), Slot: edge()}
				if roll(4) > 0 {
					x = x.Only()
				}
				b.Instrs = append(b.Instrs, x)
			}
			for range roll(3) * roll(2) {
				x := ir.Phi{Dst: edge()}
				for range roll(4) {
					x.From = append(x.From, edge())
				}
				for range roll(4) {
					x.Args = append(x.Args, edge())
				}
				b.Phis = append(b.Phis, x)
			}
			b.Last = b.Last.Only()
			p.Blocks = append(p.Blocks, b)
		}
		if p.Check() == api.OK {
			may++
			holds(t, fmt.Sprintf("%d: %+v", seed, p), p, []int64{64, 0}, 70)
		} else {
			wrong(t, fmt.Sprintf("%d: %+v", seed, p), p)
		}
	}
	if may < 500 {
		t.Errorf("any programs: only %d of them may be", may)
	}
}

// P1: very many blocks, instructions, phis and inputs.
func TestGreat(t *testing.T) {
	const n = 100000
	wrong(t, "blocks", ir.Program{Blocks: make([]ir.Block, n)})
	wrong(t, "instructions", ir.Program{Blocks: []ir.Block{{Instrs: make([]ir.Instr, n)}}})
	wrong(t, "phis", ir.Program{Blocks: []ir.Block{{Phis: make([]ir.Phi, n)}}})
	wrong(t, "entries", ir.Program{Blocks: []ir.Block{{Phis: []ir.Phi{{From: make([]int, n), Args: make([]int, n)}}}}})
	in := make([]int64, n)
	in[n-1] = 5
	p := read(t, "@0:\n  %1 = in\n  br %1, @1, @0\n@1:\n  %2 = in\n  ret %1\n")
	ends(t, "inputs", Run(p, in, math.MaxInt), trapped(2*n+1))
}

// R6: the program and the inputs are as they were, their spare room too.
func TestHandedIn(t *testing.T) {
	p := ir.Program{Blocks: []ir.Block{
		{Label: 3, Phis: []ir.Phi{phi(5, 3, 6, 4, 7), phi(6, 3, 5)}, Instrs: []ir.Instr{{Kind: ir.In, Dst: 1}, {Kind: ir.Out, A: 1}, {Kind: ir.Put, A: 1, B: 1}}, Last: branch(1, 3, 4)},
		{Label: 4, Instrs: []ir.Instr{{Kind: ir.In, Dst: 2}}, Last: ret(2)},
		{Label: 5, Last: ir.Last{End: ir.Trap}},
	}}
	whole := p.Clone()
	p.Blocks = p.Blocks[:2]
	p.Blocks[0].Instrs = p.Blocks[0].Instrs[:2]
	p.Blocks[0].Phis = p.Blocks[0].Phis[:1]
	before := p.Clone()
	in := []int64{1, 0, 7, 8, 9}
	given := in[:3]
	ends(t, "R6", Run(p, given, 100), returned(7, 8, 1, 0))
	if !ir.Same(p, before) {
		t.Errorf("R6: the program was changed: %+v", p)
	}
	full := p
	full.Blocks = slices.Clone(p.Blocks[:3])
	full.Blocks[0].Instrs = p.Blocks[0].Instrs[:3]
	full.Blocks[0].Phis = p.Blocks[0].Phis[:2]
	if !ir.Same(full, whole) {
		t.Errorf("R6: the program's spare room was changed: %+v", full)
	}
	if !slices.Equal(in, []int64{1, 0, 7, 8, 9}) || len(given) != 3 {
		t.Errorf("R6: the inputs were changed: %v", in)
	}
}

// R6: what is answered is new memory: neither the inputs, nor the program, nor another answer.
func TestAnswered(t *testing.T) {
	p := read(t, "@0:\n  %1 = in\n  out %1\n  br %1, @0, @1\n@1:\n  ret %1\n")
	in := []int64{1, 2, 3, 4, 0, 6}
	want := returned(0, 16, 1, 2, 3, 4, 0)
	first, second := Run(p, in, 100), Run(p, in, 100)
	for i := range in {
		in[i] = 90
	}
	p.Blocks[0].Instrs[1] = ir.Instr{Kind: ir.In, Dst: 7}
	ends(t, "R6: inputs and program were changed behind it", first, want)
	l := second.Trace[:cap(second.Trace)]
	for i := range l {
		l[i] = 80
	}
	ends(t, "R6: another answer was changed", first, want)
	if !slices.Equal(in, slices.Repeat([]int64{90}, 6)) {
		t.Errorf("R6: the inputs are the answer's: %v", in)
	}
	a, b := Outcome{Trace: []int64{1, 2, 3}[:2]}, Outcome{Trace: []int64{1, 2}}
	if !Same(a, b) || !slices.Equal(a.Trace[:3], []int64{1, 2, 3}) || !slices.Equal(b.Trace, []int64{1, 2}) {
		t.Errorf("R6: Same: %v, %v", a, b)
	}
}

// R8: the same of the same, whatever ran between.
func TestTwice(t *testing.T) {
	for seed := range 200 {
		roll := dice(uint64(seed) + 55)
		p := anyProgram(roll, 1+roll(6), 1+roll(5), true)
		in := anyInputs(roll, 8)
		first := Run(p, in, 300)
		Run(busy(), in, 300)
		ends(t, "R8: twice", Run(p, in, 300), first)
		ends(t, "R8: of a copy", Run(p.Clone(), slices.Clone(in), 300), first)
		if again := Run(p, in, 300); !Same(again, first) {
			t.Errorf("P13.1: Same: %s, %s", brief(again), brief(first))
		}
	}
}

// P13.1: an outcome hangs neither on the labels' numbers, nor on the order of blocks behind the first one.
func TestOtherNames(t *testing.T) {
	for seed := range 300 {
		roll := dice(uint64(seed) + 31)
		p := anyProgram(roll, 2+roll(6), 1+roll(5), true)
		in := anyInputs(roll, 8)
		q := p.Clone()
		slices.Reverse(q.Blocks[1:])
		ends(t, fmt.Sprint("blocks the other way round, ", seed), Run(q, in, 200), Run(p, in, 200))
		// Labels that are all less by as much rise as they did.
		for i := range q.Blocks {
			b := &q.Blocks[i]
			b.Label -= 5
			for _, x := range b.Phis {
				for k := range x.From {
					x.From[k] -= 5
				}
			}
			b.Last.Yes -= 5
			b.Last.No -= 5
			b.Last = b.Last.Only()
		}
		may(t, q)
		ends(t, fmt.Sprint("other labels, ", seed), Run(q, in, 200), Run(p, in, 200))
	}
}
