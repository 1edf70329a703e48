package ssa

import (
	"fmt"
	"math"
	"runtime/debug"
	"slices"
	"testing"

	"refinery/api"
	"refinery/ir"
	"refinery/run"
	"refinery/sure"
	"refinery/word"
)

// wrong: a program that may not be is answered as it is; it is as it was.
func wrong(t *testing.T, what any, p ir.Program) {
	t.Helper()
	if p.Check() == api.OK {
		t.Errorf("P16.1: %v: it may be: %+v", what, p)
	}
	before := p.Clone()
	q := Make(p)
	is(t, "P16.1: as it is", what, q, before)
	is(t, "R6: what was handed in", what, p, before)
}

// rounds: a sure program of five blocks, of which one isn't reached, that has phis in two, and to which Front puts one.
func rounds() ir.Program {
	return program(
		block(4, branch(1, 7, 4), number(2, 5), input(1), output(1)),
		block(7, branch(2, 3, 9), copied(3, 1), input(2), output(3)),
		block(9, branch(1, 3, 4), input(3), input(2), output(2)),
		block(3, branch(2, 7, 4), copied(1, 3), input(2), copied(3, 2)),
		block(2, ret(8), output(8), input(8), output(8)))
}

// P16.1: a program that may not be is answered as it is, whatever is wrong, wherever.
func TestMayNotBe(t *testing.T) {
	if err := sure.Check(rounds()); err != api.OK {
		t.Fatalf("rounds: error %d", err)
	}
	if q := holds(t, "rounds", rounds()); len(q.Blocks) != 5 || phisOf(q) != 2 {
		t.Fatalf("rounds: %+v", q)
	}
	for at := range 5 {
		for name, change := range map[string]func(b *ir.Block){
			"a label":                   func(b *ir.Block) { b.Label = -1 },
			"a label too great":         func(b *ir.Block) { b.Label = api.MaxLabel },
			"an end":                    func(b *ir.Block) { b.Last.End = ir.Ends },
			"an end's form":             func(b *ir.Block) { b.Last = ir.Last{End: ir.Trap, Yes: 4} },
			"an end's register":         func(b *ir.Block) { b.Last = branch(api.MaxReg, 4, 7) },
			"an end's register below 0": func(b *ir.Block) { b.Last = ret(-1) },
			"an end's label":            func(b *ir.Block) { b.Last = branch(1, 4, 5) },
			"a kind":                    func(b *ir.Block) { b.Instrs[0].Kind = ir.Kinds },
			"an op":                     func(b *ir.Block) { b.Instrs[0] = ir.Instr{Kind: ir.Do, Op: word.Ops} },
			"a form":                    func(b *ir.Block) { b.Instrs[1] = ir.Instr{Kind: ir.Out, A: 1, Slot: 1} },
			"a slot":                    func(b *ir.Block) { b.Instrs[1] = ir.Instr{Kind: ir.Load, Slot: api.Slots} },
			"a register":                func(b *ir.Block) { b.Instrs[2] = input(api.MaxReg) },
			"a register below 0":        func(b *ir.Block) { b.Instrs[2] = output(-1) },
			"a phi's lists":             func(b *ir.Block) { b.Phis = []ir.Phi{{From: []int{2, 4}, Args: []int{1}}} },
			"a phi's labels":            func(b *ir.Block) { b.Phis = []ir.Phi{{From: []int{4, 2}, Args: []int{1, 1}}} },
			"a phi's register":          func(b *ir.Block) { b.Phis = []ir.Phi{{Dst: api.MaxReg}} },
			"many instructions":         func(b *ir.Block) { b.Instrs = make([]ir.Instr, api.MaxInstrs) },
		} {
			p := rounds()
			change(&p.Blocks[at])
			wrong(t, fmt.Sprint(name, " in ", at), p)
		}
	}
	twice := rounds()
	twice.Blocks[4].Label = 7
	wrong(t, "a label twice", twice)
	many := rounds()
	for i := range api.MaxBlocks {
		many.Blocks = append(many.Blocks, block(10+i, trap()))
	}
	wrong(t, "many blocks", many)
	wrong(t, "no blocks", ir.Program{})
	wrong(t, "no blocks, empty", ir.Program{Blocks: []ir.Block{}})
	wrong(t, "zero blocks", ir.Program{Blocks: make([]ir.Block, 3)})
}

// R5, R7: a zero block, nil and empty lists.
func TestZero(t *testing.T) {
	is(t, "R7", "a zero block, which goes on at itself", Make(program(ir.Block{})), program(block(1, jump(0)), block(0, jump(0))))
	for _, l := range [][]ir.Instr{nil, {}} {
		p := ir.Program{Blocks: []ir.Block{{Label: 3, Phis: []ir.Phi{}, Instrs: l, Last: trap()}}}
		is(t, "R5", "no instructions, no phis", Make(p), program(block(3, trap())))
	}
}

// P1: whatever kinds, ends, labels, registers, phis.
func TestWrongAny(t *testing.T) {
	edges := []int{math.MinInt, -1, 0, 0, 1, 1, 2, 2, 15, 16, 99999, 100000, math.MaxInt}
	count := 0
	for seed := range 20000 {
		roll := dice(uint64(seed) + 21)
		edge := func() int { return edges[roll(len(edges))] }
		var p ir.Program
		for range roll(8) {
			b := block(edge(), ir.Last{End: ir.End(roll(6)), A: edge(), Yes: edge(), No: edge()})
			for range roll(4) {
				b.Instrs = append(b.Instrs, ir.Instr{Kind: ir.Kind(roll(12)), Dst: edge(), A: edge(), B: edge(), Slot: edge()})
			}
			for range roll(2) {
				b.Phis = append(b.Phis, ir.Phi{Dst: edge(), From: []int{edge()}, Args: []int{edge(), edge()}[:roll(3)]})
			}
			p.Blocks = append(p.Blocks, b)
		}
		if p.Check() != api.OK {
			wrong(t, p, p)
			count++
		}
	}
	if count < 10000 {
		t.Errorf("only %d programs that may not be", count)
	}
}

// P1: one that may be, but isn't sure, as it has phis, is answered by a program that does what it did; it is as it was.
func TestPhis(t *testing.T) {
	edges := []int{0, 0, 1, 1, 2, 3, 99999}
	for seed := range 5000 {
		roll := dice(uint64(seed) + 3)
		registers := 1 + roll(4)
		p := anyProgram(roll, 1+roll(6), registers, 4, true)
		b := &p.Blocks[roll(len(p.Blocks))]
		for range 1 + roll(3) {
			x := ir.Phi{Dst: edges[roll(len(edges))]}
			for _, c := range p.Blocks {
				if roll(3) > 0 {
					x.From = append(x.From, c.Label)
					x.Args = append(x.Args, edges[roll(len(edges))])
				}
			}
			slices.Sort(x.From)
			b.Phis = append(b.Phis, x)
		}
		before := p.Clone()
		q := Make(p)
		is(t, "R6: what was handed in", seed, p, before)
		in := anyInputs(roll)
		if o, r := run.Run(p, in, 100), run.Run(q, in, 101); o.End != run.Spent && !run.Same(o, r) {
			t.Errorf("phis: %+v: inputs %v: %+v, not %+v", p, in, r, o)
		}
		if t.Failed() {
			return
		}
	}
}

// P1: one that may be, but isn't sure, as it reads what isn't set: that was 0, and still is.
func TestUnset(t *testing.T) {
	for _, p := range []ir.Program{
		program(block(0, ret(5))),
		program(block(0, ret(99999), output(99999), input(99999))),
		program(block(0, branch(1, 2, 3), output(2), input(1)), block(2, jump(3), number(2, 7)), block(3, ret(2), output(4))),
		program(block(0, branch(1, 0, 3), output(2), input(1), copied(2, 1)), block(3, ret(2), output(4))),
	} {
		if err := sure.Check(p); err != api.ErrUnset {
			t.Errorf("error %d of %+v", err, p)
		}
		q := holds(t, p, p)
		for n := range 16 {
			acts(t, p, p, q, bits(n), 20, 1)
		}
	}
}

// P1: many blocks and instructions, with little stack.
func TestGreat(t *testing.T) {
	defer debug.SetMaxStack(debug.SetMaxStack(1 << 20))
	const n = 100000
	var p ir.Program
	for i := range n {
		p.Blocks = append(p.Blocks, block(i, jump((i+1)%n), input(i), output(i)))
	}
	wrong(t, "a ring of many", p)
	wrong(t, "many instructions", program(block(0, trap(), slices.Repeat([]ir.Instr{input(1)}, n)...)))
	row := program()
	for i := range api.MaxBlocks {
		row.Blocks = append(row.Blocks, block(i, jump(i+1), input(7), output(7)))
	}
	row.Blocks[api.MaxBlocks-1].Last = ret(7)
	q := holds(t, "a row of as many as may be", row)
	if r := q.Blocks[api.MaxBlocks-1].Last.A; r != api.MaxBlocks-1 {
		t.Errorf("P16.1: a row of as many as may be: it returns %d", r)
	}
}

// anyway: a sure program is made one whose registers are each set at one place, whether that may be or not.
func anyway(t *testing.T, what string, p ir.Program, err api.Errno) ir.Program {
	t.Helper()
	if e := sure.Check(p); e != api.OK {
		t.Fatalf("%s: it isn't sure: error %d", what, e)
	}
	q := Make(p)
	is(t, "P16.1", what, q, plainMake(p))
	strict(t, what, q)
	if got := q.Check(); got != err {
		t.Errorf("P4: %s: error %d, not %d", what, got, err)
	}
	return q
}

// P16.1, P4: as many blocks, instructions, registers, labels as may be; what comes out may not be, where limits don't last.
func TestLimits(t *testing.T) {
	const n = api.MaxBlocks
	var p ir.Program
	for i := range n {
		p.Blocks = append(p.Blocks, block(i, branch(1, i, (i+1)%n)))
	}
	p.Blocks[0].Last, p.Blocks[0].Instrs = jump(1), []ir.Instr{input(1)}
	p.Blocks[n-1].Last = branch(1, 5, 9)
	anyway(t, "as many blocks as may be", p, api.OK)
	p.Blocks[n-1].Last = branch(1, 0, 9)
	anyway(t, "as many blocks as may be, and one more", p, api.ErrMany)
	label := program(block(99999, branch(99999, 99999, 0), input(99999)), block(0, ret(99999), output(99999)))
	anyway(t, "the greatest label, and one more", label, api.ErrRange)
	label.Blocks[0].Last = jump(0)
	anyway(t, "the greatest label and register", label, api.OK)
	for _, c := range []struct {
		instrs int
		err    api.Errno
	}{{3995, api.OK}, {3996, api.OK}, {3997, api.ErrSize}} {
		row := slices.Repeat([]ir.Instr{input(7)}, c.instrs-2)
		p = program(block(3, jump(4), row...), block(4, branch(7, 4, 6), output(7), input(7)), block(6, ret(7)))
		if q := anyway(t, fmt.Sprint(c.instrs, " instructions"), p, c.err); phisOf(q) != 1 {
			t.Errorf("%d instructions: %d phis", c.instrs, phisOf(q))
		}
	}
}

// P16.1, P1: as many registers as may be that are set in a round of rounds, and live in all of them: very many phis.
func TestManyPhis(t *testing.T) {
	const n, regs = api.MaxBlocks - 1, 1800
	p := program(block(0, jump(1)))
	for r := range regs {
		p.Blocks[0].Instrs = append(p.Blocks[0].Instrs, number(r, int64(r)))
	}
	for i := 1; i <= n; i++ {
		p.Blocks = append(p.Blocks, block(i, branch(i, min(i+1, n), max(n-i, 1))))
	}
	for r := range regs {
		if r == p.Blocks[n/2].Last.A {
			continue
		}
		p.Blocks[n/2].Instrs = append(p.Blocks[n/2].Instrs, ir.Instr{Kind: ir.Do, Op: word.Add, Dst: r, A: r, B: (r + 1) % regs})
	}
	if err := sure.Check(p); err != api.OK {
		t.Fatalf("it isn't sure: error %d", err)
	}
	q := Make(p)
	strict(t, "many phis", q)
	if phisOf(q) < 100*regs {
		t.Errorf("%d phis", phisOf(q))
	}
}

// spoil: whatever a program's lists have, their spare room too, becomes another.
func spoil(p ir.Program) {
	blocks := p.Blocks[:cap(p.Blocks)]
	for i := range blocks {
		b := &blocks[i]
		phis, instrs := b.Phis[:cap(b.Phis)], b.Instrs[:cap(b.Instrs)]
		for j := range phis {
			for _, l := range [][]int{phis[j].From[:cap(phis[j].From)], phis[j].Args[:cap(phis[j].Args)]} {
				for k := range l {
					l[k] = 777
				}
			}
			phis[j] = ir.Phi{Dst: 777}
		}
		for j := range instrs {
			instrs[j] = output(777)
		}
		blocks[i] = block(777, ret(777))
	}
}

// some: one that may not be, a sure one, one that Front puts nothing to, one with phis.
func some() map[string]ir.Program {
	bad, straight, phis := rounds(), rounds(), rounds()
	bad.Blocks[1].Last.A = -1
	straight.Blocks[0].Last, straight.Blocks[2].Last, straight.Blocks[3].Last = jump(7), branch(1, 3, 7), jump(9)
	for i := range phis.Blocks {
		phis.Blocks[i].Phis = []ir.Phi{{Dst: 5, From: []int{2, 4}, Args: []int{1, 2}}}
	}
	return map[string]ir.Program{"one that may not be": bad, "rounds": rounds(), "none put in": straight, "phis": phis}
}

// R6: what is handed in is as it was, its spare room too.
func TestSpareRoom(t *testing.T) {
	for name, whole := range some() {
		before := whole.Clone()
		p := ir.Program{Blocks: slices.Clone(whole.Blocks)}
		for i := range p.Blocks {
			p.Blocks[i].Instrs = p.Blocks[i].Instrs[:2]
		}
		want := p.Clone()
		Make(p)
		is(t, "R6", name, p, want)
		is(t, "R6: spare room of instructions", name, whole, before)
		p = ir.Program{Blocks: whole.Blocks[:1]}
		p.Blocks[0].Last = jump(4)
		before.Blocks[0].Last = jump(4)
		Make(p)
		is(t, "R6: spare room of blocks", name, whole, before)
	}
}

// R6: an answer is new memory: neither what was handed in, nor another answer, nor one list of it another.
func TestOwn(t *testing.T) {
	for name, p := range some() {
		// Lists that are shared in what is handed in aren't in what is answered.
		p.Blocks[3].Instrs = p.Blocks[2].Instrs
		before := p.Clone()
		q, other := Make(p), Make(p)
		want := q.Clone()
		spoil(other)
		is(t, "R6: another answer was changed", name, q, want)
		is(t, "R6: an answer was changed", name, p, before)
		spoil(p)
		is(t, "R6: what was handed in was changed", name, q, want)
		for i := range q.Blocks {
			spoil(ir.Program{Blocks: q.Blocks[i : i+1 : i+1]})
			want.Blocks[i] = block(777, ret(777))
			is(t, fmt.Sprint("R6: its block ", i, " was changed"), name, q, want)
		}
	}
}

// R6: of a block's phis no two lists share memory, nor does what is behind them.
func TestOwnLists(t *testing.T) {
	q := Make(read(t, "@0:\n%1 = in\n%2 = in\n%3 = in\njump @1\n@1:\n%4 = %1\n%1 = %2\n%2 = %3\n%3 = %4\nbr %3, @1, @2\n@2:\nret %2"))
	if phisOf(q) != 3 {
		t.Fatalf("%d phis", phisOf(q))
	}
	want := q.Clone()
	for i := range q.Blocks {
		for j := range q.Blocks[i].Phis {
			x, y := q.Blocks[i].Phis[j], want.Blocks[i].Phis[j]
			for k := range x.From {
				x.From[k], y.From[k] = -1, -1
				is(t, "R6", "a label was changed", q, want)
				x.Args[k], y.Args[k] = -2, -2
				is(t, "R6", "a register was changed", q, want)
			}
			_, _ = append(x.From, 5), append(x.Args, 5)
			is(t, "R6", "a list was longer", q, want)
		}
	}
}
