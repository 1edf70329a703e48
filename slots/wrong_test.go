package slots

import (
	"fmt"
	"math"
	"runtime/debug"
	"slices"
	"testing"

	"refinery/api"
	"refinery/ir"
	"refinery/run"
	"refinery/word"
)

// wrong: a program that may not be is answered as it is, by an answer of its own; it is as it was.
func wrong(t *testing.T, what any, p ir.Program) {
	t.Helper()
	if p.Check() == api.OK {
		t.Errorf("P15.1: %v: it may be: %+v", what, p)
	}
	before := p.Clone()
	Used(p)
	q := Lift(p)
	is(t, fmt.Sprint("P15.1: Lift: ", what), q, before)
	is(t, fmt.Sprint("R6: Lift: what was handed in, ", what), p, before)
}

// rounds: a program of three blocks that uses slots in each, that Front puts a block ahead of, and that has one that isn't reached.
func rounds() ir.Program {
	return program(
		block(4, branch(1, 7, 4), load(1, 3), ir.Instr{Kind: ir.Out, A: 1}, store(5, 2)),
		block(7, jump(4), store(3, 1), ir.Instr{Kind: ir.In, Dst: 1}, load(2, 5)),
		block(2, ret(1), load(0, 0), store(15, 0), ir.Instr{Kind: ir.In, Dst: 1}))
}

// P15.1: a program that may not be is answered as it is, whatever is wrong, wherever.
func TestMayNotBe(t *testing.T) {
	holds(t, "rounds", rounds())
	if q := Lift(rounds()); len(q.Blocks) != 4 || q.Count() != 17 {
		t.Fatalf("rounds: %+v", q)
	}
	for at := range 3 {
		for name, change := range map[string]func(b *ir.Block){
			"a label":                   func(b *ir.Block) { b.Label = -1 },
			"a label too great":         func(b *ir.Block) { b.Label = api.MaxLabel },
			"an end":                    func(b *ir.Block) { b.Last.End = ir.Ends },
			"an end's form":             func(b *ir.Block) { b.Last = ir.Last{End: ir.Trap, Yes: 4} },
			"an end's register":         func(b *ir.Block) { b.Last = branch(api.MaxReg, 4, 7) },
			"an end's register below 0": func(b *ir.Block) { b.Last = ret(-1) },
			"an end's label":            func(b *ir.Block) { b.Last = branch(1, 4, 5) },
			"a kind":                    func(b *ir.Block) { b.Instrs[0].Kind = ir.Kinds },
			"an op":                     func(b *ir.Block) { b.Instrs[0] = ir.Instr{Kind: ir.Do, Op: word.Ops} },
			"a load's form":             func(b *ir.Block) { b.Instrs[0] = ir.Instr{Kind: ir.Load, A: 1} },
			"a store's form":            func(b *ir.Block) { b.Instrs[2] = ir.Instr{Kind: ir.Store, Dst: 1} },
			"a form":                    func(b *ir.Block) { b.Instrs[1] = ir.Instr{Kind: ir.Out, A: 1, Slot: 1} },
			"a slot":                    func(b *ir.Block) { b.Instrs[1] = load(1, api.Slots) },
			"a slot below 0":            func(b *ir.Block) { b.Instrs[1] = store(-1, 1) },
			"a register":                func(b *ir.Block) { b.Instrs[1] = load(api.MaxReg, 1) },
			"a register below 0":        func(b *ir.Block) { b.Instrs[1] = store(1, -1) },
			"a phi's lists":             func(b *ir.Block) { b.Phis = []ir.Phi{{From: []int{2, 4}, Args: []int{1}}} },
			"a phi's labels":            func(b *ir.Block) { b.Phis = []ir.Phi{{From: []int{4, 2}, Args: []int{1, 1}}} },
			"a phi's label":             func(b *ir.Block) { b.Phis = []ir.Phi{{From: []int{8}, Args: []int{1}}} },
			"a phi's register":          func(b *ir.Block) { b.Phis = []ir.Phi{{Dst: api.MaxReg}} },
			"many instructions":         func(b *ir.Block) { b.Instrs = make([]ir.Instr, api.MaxInstrs) },
		} {
			p := rounds()
			change(&p.Blocks[at])
			wrong(t, fmt.Sprint(name, " in ", at), p)
		}
	}
	twice := rounds()
	twice.Blocks[2].Label = 7
	wrong(t, "a label twice", twice)
	many := rounds()
	for i := range api.MaxBlocks {
		many.Blocks = append(many.Blocks, block(10+i, trap()))
	}
	wrong(t, "many blocks", many)
	wrong(t, "no blocks", ir.Program{})
	wrong(t, "no blocks, empty", ir.Program{Blocks: []ir.Block{}})
	wrong(t, "zero blocks", ir.Program{Blocks: make([]ir.Block, 3)})
}

// R5, R7: a zero block, nil and empty lists.
func TestZero(t *testing.T) {
	lifts(t, "R7: a zero block, which goes on at itself", program(ir.Block{}), program(block(1, jump(0)), block(0, jump(0))))
	for _, l := range [][]ir.Instr{nil, {}} {
		lifts(t, "R5: no instructions", program(block(3, jump(4), l...), block(4, trap(), l...)), program(block(3, jump(4)), block(4, trap())))
		lifts(t, "R5: no instructions in the first", program(block(3, jump(4), l...), block(4, trap(), load(0, 0))), program(block(3, jump(4), number(1, 0)), block(4, trap(), copied(0, 1))))
		p := ir.Program{Blocks: []ir.Block{{Phis: []ir.Phi{}, Instrs: l, Last: ret(0)}}}
		lifts(t, "R5: no phis", p, program(block(0, ret(0))))
	}
}

// P1: whatever kinds, ends, labels, registers, slots.
func TestWrongAny(t *testing.T) {
	edges := []int{math.MinInt, -1, 0, 0, 1, 1, 2, 2, 15, 16, 99999, 100000, math.MaxInt}
	count := 0
	for seed := range 20000 {
		roll := dice(uint64(seed) + 21)
		edge := func() int { return edges[roll(len(edges))] }
		var p ir.Program
		for range roll(8) {
			b := block(edge(), ir.Last{End: ir.End(roll(6)), A: edge(), Yes: edge(), No: edge()})
			for range roll(4) {
				b.Instrs = append(b.Instrs, ir.Instr{Kind: ir.Kind(roll(12)), Dst: edge(), A: edge(), B: edge(), Slot: edge()})
			}
			for range roll(2) {
				b.Phis = append(b.Phis, ir.Phi{Dst: edge(), From: []int{edge()}, Args: []int{edge(), edge()}[:roll(3)]})
			}
			p.Blocks = append(p.Blocks, b)
		}
		if p.Check() != api.OK {
			wrong(t, fmt.Sprintf("%d: %+v", seed, p), p)
			count++
		}
	}
	if count < 10000 {
		t.Errorf("only %d programs that may not be", count)
	}
}

// P1: many blocks and instructions, with little stack.
func TestGreat(t *testing.T) {
	defer debug.SetMaxStack(debug.SetMaxStack(1 << 20))
	const n = 100000
	var p ir.Program
	for i := range n {
		p.Blocks = append(p.Blocks, block(i, jump((i+1)%n), load(i, i%20), store(i%20, i)))
	}
	wrong(t, "a ring of many", p)
	uses(t, "a ring of many", p, 0, 1, 2, 3, 4, 5, 6, 7, 8, 9, 10, 11, 12, 13, 14, 15)
	wrong(t, "many instructions", program(block(0, trap(), slices.Repeat([]ir.Instr{load(1, 7)}, n)...)))
}

// P15.1: as many blocks and instructions as may be; what comes out may not be, where limits don't last.
func TestLimits(t *testing.T) {
	var p ir.Program
	for i := range api.MaxBlocks {
		p.Blocks = append(p.Blocks, block(i, branch(1, i, (i+1)%api.MaxBlocks), load(i%7, i%16), store(i%13, i%5)))
	}
	anyway(t, "P15.1: as many blocks as may be", p, api.ErrMany)
	p.Blocks[0].Last, p.Blocks[api.MaxBlocks-1].Last = jump(1), jump(1)
	anyway(t, "P15.1: as many blocks as may be, none put in", p, api.OK)
	for _, c := range []struct {
		instrs int
		err    api.Errno
	}{{3997, api.OK}, {3998, api.ErrSize}, {3999, api.ErrSize}} {
		p = program(block(0, ret(6), slices.Repeat([]ir.Instr{store(1, 2), load(6, 4), store(1, 3)}, 1333)[:c.instrs]...))
		anyway(t, fmt.Sprint("P15.1: ", c.instrs, " instructions"), p, c.err)
	}
	for _, c := range []struct {
		reg, slot int
		err       api.Errno
	}{{99998, 0, api.OK}, {99999, 0, api.ErrRange}, {99983, 15, api.OK}, {99984, 15, api.ErrRange}, {99984, 14, api.OK}, {99999, 15, api.ErrRange}} {
		p = program(block(0, ret(c.reg), load(c.reg, c.slot)))
		anyway(t, fmt.Sprint("P15.1: register ", c.reg, ", slot ", c.slot), p, c.err)
		p = program(block(0, ret(3), store(c.slot, c.reg)))
		anyway(t, fmt.Sprint("P15.1: register ", c.reg, ", to slot ", c.slot), p, c.err)
	}
	anyway(t, "P15.1: the greatest label", program(block(99999, jump(99999), load(1, 1))), api.ErrRange)
	anyway(t, "P15.1: the greatest label, none put in", program(block(99999, ret(1), load(1, 1))), api.OK)
	anyway(t, "P15.1: the greatest register, without slots", program(block(5, ret(99999))), api.OK)
}

// anyway: a program that may be is lifted, whether what comes out may be or not.
func anyway(t *testing.T, what string, p ir.Program, err api.Errno) {
	t.Helper()
	may(t, what, p)
	q := Lift(p)
	is(t, what, q, plainLift(p))
	if got := q.Check(); got != err {
		t.Errorf("%s: error %d, not %d", what, got, err)
	}
}

// P1, P15.2: one with phis is lifted as others are, too; its phis' registers count, its phis stay, and it does what it did.
func TestPhis(t *testing.T) {
	p := program(
		ir.Block{Label: 4, Phis: []ir.Phi{{Dst: 9, From: []int{4, 7}, Args: []int{1, 20}}}, Instrs: []ir.Instr{{Kind: ir.Out, A: 9}, load(1, 3), {Kind: ir.In, Dst: 2}, store(3, 2)}, Last: branch(2, 7, 4)},
		ir.Block{Label: 7, Phis: []ir.Phi{{Dst: 20, From: []int{4}, Args: []int{30}}, {Dst: 30, From: []int{4, 7}, Args: []int{2, 3}}}, Instrs: []ir.Instr{{Kind: ir.Out, A: 30}}, Last: jump(4)})
	q := holds(t, "phis", p)
	if l := q.Blocks[0].Instrs; !slices.Equal(l, []ir.Instr{number(34, 0)}) || !slices.EqualFunc(q.Blocks[1].Phis, p.Blocks[0].Phis, func(x, y ir.Phi) bool { return x.Dst == y.Dst && slices.Equal(x.From, y.From) }) {
		t.Errorf("P15.1: phis: %+v", q)
	}
	for _, in := range [][]int64{nil, {5}, {5, 0, 7}, {0, 0, 3, -1, 0, 0, 2}} {
		if o := acts(t, "phis", p, q, in); o.End != run.Trapped {
			t.Errorf("phis: %+v", o)
		}
	}
	p = program(ir.Block{Label: 0, Phis: []ir.Phi{{Dst: 40}}, Instrs: []ir.Instr{load(1, 0)}, Last: ret(1)})
	lifts(t, "a phi without entries", p, program(ir.Block{Label: 0, Phis: []ir.Phi{{Dst: 40}}, Instrs: []ir.Instr{number(41, 0), copied(1, 41)}, Last: ret(1)}))
}

// spoil: whatever a program's lists have, their spare room too, becomes another.
func spoil(p ir.Program) {
	blocks := p.Blocks[:cap(p.Blocks)]
	for i := range blocks {
		instrs := blocks[i].Instrs[:cap(blocks[i].Instrs)]
		for j := range instrs {
			instrs[j] = ir.Instr{Kind: ir.Out, A: 777}
		}
		for _, x := range blocks[i].Phis {
			for j := range x.From {
				x.From[j] = 777
			}
			for j := range x.Args {
				x.Args[j] = 777
			}
		}
		blocks[i] = block(777, ret(777))
	}
}

// some: programs that may be and one that may not; with a block put in, with numbers, with neither; with phis.
func some() map[string]ir.Program {
	bad, straight, without, phis := rounds(), rounds(), rounds(), rounds()
	bad.Blocks[1].Last.A = -1
	straight.Blocks[0].Last, straight.Blocks[1].Last = jump(7), jump(2)
	for i := range without.Blocks {
		without.Blocks[i].Instrs = []ir.Instr{{Kind: ir.Out}, {Kind: ir.In}, {Kind: ir.Out}}
		without.Blocks[i].Last = jump(2)
		phis.Blocks[i].Phis = []ir.Phi{{Dst: 5, From: []int{2, 4}, Args: []int{1, 2}}}
	}
	return map[string]ir.Program{"one that may not be": bad, "rounds": rounds(), "none put in": straight, "without slots": without, "phis": phis}
}

// R6: what is handed in is as it was, its spare room too.
func TestSpareRoom(t *testing.T) {
	for name, whole := range some() {
		before := whole.Clone()
		p := ir.Program{Blocks: slices.Clone(whole.Blocks)}
		for i := range p.Blocks {
			p.Blocks[i].Instrs = p.Blocks[i].Instrs[:1]
		}
		want := p.Clone()
		Used(p)
		Lift(p)
		is(t, "R6: "+name, p, want)
		is(t, "R6: spare room of instructions, "+name, whole, before)
		p = ir.Program{Blocks: whole.Blocks[:1]}
		p.Blocks[0].Last = jump(4)
		before.Blocks[0].Last = jump(4)
		Used(p)
		Lift(p)
		is(t, "R6: spare room of blocks, "+name, whole, before)
	}
}

// R6: an answer is new memory: neither what was handed in, nor another answer, nor one list of it another.
func TestOwn(t *testing.T) {
	for name, p := range some() {
		// Lists that are shared in what is handed in aren't in what is answered.
		p.Blocks[2].Instrs, p.Blocks[2].Phis = p.Blocks[0].Instrs, p.Blocks[0].Phis
		before := p.Clone()
		q, other := Lift(p), Lift(p)
		want := q.Clone()
		spoil(other)
		is(t, "R6: another answer was changed: "+name, q, want)
		is(t, "R6: an answer was changed: "+name, p, before)
		spoil(p)
		is(t, "R6: what was handed in was changed: "+name, q, want)
		for i := range q.Blocks {
			spoil(ir.Program{Blocks: q.Blocks[i : i+1 : i+1]})
			want.Blocks[i] = block(777, ret(777))
			is(t, fmt.Sprint("R6: its block ", i, " was changed: ", name), q, want)
		}
	}
}
