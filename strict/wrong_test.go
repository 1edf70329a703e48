package strict

import (
	"math"
	"runtime/debug"
	"slices"
	"testing"

	"refinery/api"
	"refinery/ir"
	"refinery/ssa"
	"refinery/sure"
	"refinery/word"
)

// R5, R7: no blocks, zero blocks.
func TestZero(t *testing.T) {
	checks(t, "R7: a zero program", ir.Program{}, api.ErrMany)
	checks(t, "R5: no blocks", ir.Program{Blocks: []ir.Block{}}, api.ErrMany)
	checks(t, "R7: a zero block, which goes on at itself", program(ir.Block{}), api.ErrForm)
	checks(t, "R7: two zero blocks", ir.Program{Blocks: make([]ir.Block, 2)}, api.ErrTwice)
	checks(t, "R7: zero blocks", ir.Program{Blocks: make([]ir.Block, 500)}, api.ErrMany)
	checks(t, "R7: a zero phi", program(with(block(0, trap()), ir.Phi{})), api.OK)
	checks(t, "R7: zero phis", program(with(block(0, trap()), make([]ir.Phi, 2)...)), api.ErrTwice)
	checks(t, "R7: a zero instruction", program(block(0, ret(0), ir.Instr{})), api.OK)
	checks(t, "R7: zero instructions", program(block(0, ret(0), make([]ir.Instr, 2)...)), api.ErrTwice)
}

// P1: whatever kinds, ends, labels, registers, phis.
func TestWrongAny(t *testing.T) {
	edges := []int{math.MinInt, -1, 0, 0, 1, 1, 2, 2, 15, 16, 99999, 100000, math.MaxInt}
	for seed := range 20000 {
		roll := dice(uint64(seed) + 5)
		edge := func() int { return edges[roll(len(edges))] }
		var p ir.Program
		for range roll(8) {
			b := block(edge(), ir.Last{End: ir.End(roll(6)), A: edge(), Yes: edge(), No: edge()})
			for range roll(4) {
				b.Instrs = append(b.Instrs, ir.Instr{Kind: ir.Kind(roll(12)), Op: word.Op(roll(14)), Dst: edge(), A: edge(), B: edge(), Slot: edge()})
			}
			for range roll(3) {
				b.Phis = append(b.Phis, ir.Phi{Dst: edge(), From: []int{edge(), edge()}[:roll(3)], Args: []int{edge(), edge()}[:roll(3)]})
			}
			p.Blocks = append(p.Blocks, b)
		}
		checks(t, p, p, plain(p))
	}
}

// R6: what is handed in is as it was, the spare room of its lists, too.
func TestSpareRoom(t *testing.T) {
	whole := sample()
	for i := range whole.Blocks {
		b := &whole.Blocks[i]
		b.Phis = append(b.Phis, phi(40+i, [2]int{50, 51}))
		b.Instrs = append(b.Instrs, output(60+i))
		for k := range b.Phis {
			b.Phis[k].From, b.Phis[k].Args = append(b.Phis[k].From, 70), append(b.Phis[k].Args, 71)
		}
	}
	whole.Blocks = append(whole.Blocks, block(80, trap()))
	before := whole.Clone()
	p := ir.Program{Blocks: slices.Clone(whole.Blocks)[:6]}
	for i := range p.Blocks {
		b := &p.Blocks[i]
		b.Phis, b.Instrs = slices.Clone(b.Phis)[:len(b.Phis)-1], b.Instrs[:len(b.Instrs)-1]
		for k, x := range b.Phis {
			b.Phis[k].From, b.Phis[k].Args = x.From[:len(x.From)-1], x.Args[:len(x.Args)-1]
		}
	}
	checks(t, "with spare room", p, api.OK)
	if !ir.Same(whole, before) {
		t.Errorf("R6: spare room was changed: %+v", whole)
	}
}

// P17.1: the answer hangs neither on the labels nor on the order of the blocks behind the first, nor on that of a block's phis.
func TestOtherNames(t *testing.T) {
	p := sample()
	slices.Reverse(p.Blocks[1:])
	checks(t, "blocks the other way round", p, api.OK)
	p = sample()
	p.Blocks[3] = with(p.Blocks[3], phi(20, [2]int{2, 0}, [2]int{9, 0}))
	checks(t, "two phis", p, api.OK)
	slices.Reverse(p.Blocks[3].Phis)
	checks(t, "two phis, the other way round", p, api.OK)
	p.Blocks[5].Instrs[0].A = 20
	checks(t, "two phis, one read behind", p, api.OK)
	p.Blocks[2].Instrs[0].A = 20
	checks(t, "two phis, one read ahead", p, api.ErrUnset)
}

// P1: many blocks and instructions, with little stack.
func TestGreat(t *testing.T) {
	defer debug.SetMaxStack(debug.SetMaxStack(1 << 20))
	const n = 100000
	var p ir.Program
	for i := range n {
		p.Blocks = append(p.Blocks, block(i, jump((i+1)%n), input(i), output(i)))
	}
	checks(t, "a ring of many", p, api.ErrMany)
	checks(t, "many instructions", program(block(0, trap(), slices.Repeat([]ir.Instr{input(1)}, n)...)), api.ErrSize)
	long := phi(1)
	for i := range n {
		long.From, long.Args = append(long.From, i), append(long.Args, i)
	}
	checks(t, "a long phi", program(with(block(0, trap()), long)), api.ErrNone)
}

// P17.1: as many blocks, instructions and registers as may be, and an error in the last of them.
func TestMany(t *testing.T) {
	const n = api.MaxBlocks
	var p ir.Program
	for i := range n {
		b := block(i, jump(i+1), add(99999-i, 99999-max(i-1, 0), 99999))
		b.Instrs = slices.Insert(b.Instrs, 0, slices.Repeat([]ir.Instr{output(99999 - max(i-1, 0))}, 8)...)
		p.Blocks = append(p.Blocks, b)
	}
	p.Blocks[0].Instrs = slices.Repeat([]ir.Instr{input(99999)}, 1)
	p.Blocks[n-1].Last = ret(99999)
	p.Blocks[n-1].Instrs = append(p.Blocks[n-1].Instrs, slices.Repeat([]ir.Instr{{Kind: ir.Put, A: 99999, B: 99700}}, 8)...)
	if p.Count() != api.MaxInstrs {
		t.Fatalf("%d instructions", p.Count())
	}
	checks(t, "a row", p, api.OK)
	last := &p.Blocks[n-1]
	last.Instrs[16].B = 99999 - n
	checks(t, "a row, one read in the last that isn't set", p, api.ErrUnset)
	last.Instrs[16] = input(99999)
	checks(t, "a row, one set again in the last", p, api.ErrTwice)
	last.Instrs[16] = output(99999)
	last.Last = jump(1)
	checks(t, "a row that goes back to the second", p, api.OK)
	last.Last = branch(99999, 1, 0)
	checks(t, "a row that goes back to the first", p, api.ErrForm)
	last.Last = trap()
	p.Blocks[n-2].Last = branch(99999, 1, n-2)
	checks(t, "a row, the last of which isn't reached", p, api.ErrForm)
}

// P17.1, P1: as many phis as may be, of as many entries as may be: each block goes on at the next one and at the last.
func TestManyPhis(t *testing.T) {
	const n, phis = api.MaxBlocks, api.MaxInstrs - 2*api.MaxBlocks
	var p ir.Program
	for i := range n {
		p.Blocks = append(p.Blocks, block(i, branch(0, min(i+1, n-1), n-1), input(i)))
	}
	last := &p.Blocks[n-1]
	last.Last = ret(n)
	for r := range phis {
		x := phi(n + r)
		for i := range n - 1 {
			x.From, x.Args = append(x.From, i), append(x.Args, i*(r%2))
		}
		last.Phis = append(last.Phis, x)
	}
	if p.Count() != api.MaxInstrs {
		t.Fatalf("%d instructions", p.Count())
	}
	is := func(what string, want api.Errno) {
		t.Helper()
		if err := Check(p); err != want {
			t.Errorf("P17.1: many phis: %s: error %d, not %d", what, err, want)
		}
	}
	is("as they are", api.OK)
	x := &last.Phis[phis-1]
	x.Args[n-3] = n - 2
	is("an entry that is set behind the end of its block", api.ErrUnset)
	x.Args[n-3] = n - 3
	is("as they were", api.OK)
	x.From, x.Args = x.From[1:], x.Args[1:]
	is("one has an entry less", api.ErrForm)
	x.Dst = n
	is("one sets what another one does, and has an entry less", api.ErrTwice)
}

// P4: as many blocks as may be; where limits don't last what is made isn't strict, and chapter 3's error is told.
func TestLimits(t *testing.T) {
	const n = api.MaxBlocks
	var p ir.Program
	for i := range n {
		p.Blocks = append(p.Blocks, block(i, jump(max(1, (i+1)%n))))
	}
	if _, ok := made(t, p); !ok {
		t.Error("a row of as many as may be isn't sure")
	}
	p.Blocks[n-1].Last = jump(0)
	if err := sure.Check(p); err != api.OK {
		t.Errorf("a round of as many as may be isn't sure: error %d", err)
	}
	if err := Check(ssa.Make(p)); err != api.ErrMany {
		t.Errorf("P17.1: error %d of what is made of a round of as many as may be", err)
	}
}
