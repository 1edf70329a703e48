package clean

import (
	"fmt"
	"math"
	"runtime/debug"
	"slices"
	"testing"

	"refinery/api"
	"refinery/ir"
	"refinery/word"
)

// wrong: of a program that may not be: Edges answers it as it is, the others end; it is as it was.
func wrong(t *testing.T, what any, p ir.Program) {
	t.Helper()
	if p.Check() == api.OK {
		t.Errorf("P14.2: %v: it may be: %+v", what, p)
	}
	before := p.Clone()
	is(t, fmt.Sprint("P14.2: Edges: ", what), Edges(p), before)
	Label(p)
	for _, c := range calls() {
		c.do(p)
		is(t, fmt.Sprintf("R6: %s: what was handed in, %v", c.name, what), p, before)
	}
}

// split: a program whose ways Edges parts, which Front puts a block ahead of, and of which Reached leaves one out.
func split() ir.Program {
	return program(block(4, branch(1, 7, 4), from(9, 2, 1, 4, 1)), block(7, branch(1, 4, 7), from(9, 2, 3, 4, 5, 7, 6)), block(2, jump(7)))
}

// P14.2: a program that may not be is answered as it is, whatever is wrong, wherever.
func TestEdgesMayNotBe(t *testing.T) {
	may(t, "split", split())
	if len(Edges(split()).Blocks) != 7 {
		t.Fatalf("split: %+v", Edges(split()))
	}
	for at := range 3 {
		for name, change := range map[string]func(b *ir.Block){
			"a label":               func(b *ir.Block) { b.Label = -1 },
			"a label too great":     func(b *ir.Block) { b.Label = api.MaxLabel },
			"an end":                func(b *ir.Block) { b.Last.End = ir.Ends },
			"an end's form":         func(b *ir.Block) { b.Last = ir.Last{End: ir.Trap, Yes: 4} },
			"an end's register":     func(b *ir.Block) { b.Last = branch(api.MaxReg, 4, 7) },
			"an end's label":        func(b *ir.Block) { b.Last = branch(1, 4, 5) },
			"a kind":                func(b *ir.Block) { b.Instrs[0].Kind = ir.Kinds },
			"an op":                 func(b *ir.Block) { b.Instrs[0] = ir.Instr{Kind: ir.Do, Op: word.Ops} },
			"an instruction's form": func(b *ir.Block) { b.Instrs[2].Dst = 1 },
			"a slot":                func(b *ir.Block) { b.Instrs[1] = ir.Instr{Kind: ir.Load, Slot: api.Slots} },
			"a phi's lists":         func(b *ir.Block) { b.Phis = []ir.Phi{{From: []int{2, 4}, Args: []int{1}}} },
			"a phi's other lists":   func(b *ir.Block) { b.Phis = []ir.Phi{{From: []int{2}, Args: []int{1, 2}}} },
			"a phi's labels":        func(b *ir.Block) { b.Phis = []ir.Phi{from(1, 4, 1, 2, 1)} },
			"a phi's same labels":   func(b *ir.Block) { b.Phis = []ir.Phi{from(1, 4, 1, 4, 1)} },
			"a phi's label":         func(b *ir.Block) { b.Phis = []ir.Phi{from(1, 8, 1)} },
			"a phi's Dst":           func(b *ir.Block) { b.Phis = []ir.Phi{from(-1, 4, 1)} },
			"a phi's register":      func(b *ir.Block) { b.Phis = []ir.Phi{from(1, 4, api.MaxReg)} },
			"many instructions":     func(b *ir.Block) { b.Instrs = make([]ir.Instr, api.MaxInstrs) },
		} {
			p := split()
			change(&p.Blocks[at])
			wrong(t, fmt.Sprint(name, " in ", at), p)
		}
	}
	twice := split()
	twice.Blocks[2].Label = 7
	wrong(t, "a label twice", twice)
	many := split()
	for i := range api.MaxBlocks {
		many.Blocks = append(many.Blocks, bare(10+i, trap()))
	}
	wrong(t, "many blocks", many)
}

// R5, R7: no blocks, zero blocks, nil and empty lists.
func TestZero(t *testing.T) {
	for _, p := range []ir.Program{{}, {Blocks: []ir.Block{}}} {
		if Label(p) != 0 {
			t.Errorf("R7: Label of nothing: %d", Label(p))
		}
		for _, c := range calls() {
			is(t, "R7: "+c.name+" of nothing", c.do(p), ir.Program{})
		}
	}
	if l := Turned(ir.Last{}, 0, 0); l != (ir.Last{}) {
		t.Errorf("R7: a zero end, turned: %+v", l)
	}
	one := program(ir.Block{})
	for _, call := range []func(ir.Program) ir.Program{Ways, Reached, Edges} {
		makes(t, "R7: a zero block", call, one, one)
	}
	makes(t, "R7: Front of a zero block, which goes on at itself", Front, one, program(bare(1, jump(0)), bare(0, jump(0))))
	empty := program(ir.Block{Phis: []ir.Phi{{}, {From: []int{}, Args: []int{}}}, Instrs: []ir.Instr{}, Last: branch(0, 0, 1)}, ir.Block{Label: 1, Phis: []ir.Phi{}})
	want := program(ir.Block{Phis: make([]ir.Phi, 2), Last: branch(0, 2, 1)}, ir.Block{Label: 1}, bare(2, jump(0)))
	makes(t, "R5: Edges, empty lists", Edges, empty, want)
	makes(t, "R5: Ways, empty lists", Ways, empty, empty)
	wrong(t, "R7: zero blocks", ir.Program{Blocks: make([]ir.Block, 500)})
}

// P1: labels out of range, labels that no block has, one label at two blocks.
func TestWrongLabels(t *testing.T) {
	for _, label := range []int{math.MinInt, -2, -1, 99999, 100000, math.MaxInt} {
		wrong(t, label, program(bare(label, jump(label)), bare(label, branch(0, label, 0)), bare(0, trap())))
		wrong(t, label, program(block(3, branch(1, label, 4), from(1, label, 2)), block(4, jump(label), from(1, 3, 2))))
	}
	// Of two blocks with one label the first is where others go on.
	p := program(block(5, jump(7)), block(7, ret(1), from(1, 5, 2)), block(7, jump(5), from(1, 5, 2)))
	is(t, "Reached: a label twice", Reached(p), program(block(5, jump(7)), block(7, ret(1), from(1, 5, 2))))
}

// P1: of a phi's unlike lists the entries that both have count.
func TestWrongPhis(t *testing.T) {
	for _, c := range []struct{ x, want ir.Phi }{
		{ir.Phi{Dst: 1, From: []int{5, 7}, Args: []int{2}}, from(1, 5, 2)},
		{ir.Phi{Dst: 1, From: []int{5}, Args: []int{2, 3}}, from(1, 5, 2)},
		{ir.Phi{Dst: 1, From: []int{5}}, from(1)},
		{ir.Phi{Dst: 1, Args: []int{5}}, from(1)},
	} {
		p, want := program(block(5, jump(7)), block(7, jump(7), c.x)), program(block(5, jump(7)), block(7, jump(7), c.want))
		is(t, "Ways: unlike lists", Ways(p), want)
		is(t, "Reached: unlike lists", Reached(p), want)
		wrong(t, "unlike lists", p)
	}
}

// P1: whatever kinds, ends, labels, registers, phis.
func TestWrongAny(t *testing.T) {
	edges := []int{math.MinInt, -1, 0, 0, 1, 1, 2, 2, 99999, 100000, math.MaxInt}
	count := 0
	for seed := range 20000 {
		roll := dice(uint64(seed) + 21)
		edge := func() int { return edges[roll(len(edges))] }
		var p ir.Program
		for range roll(8) {
			b := ir.Block{Label: edge(), Last: ir.Last{End: ir.End(roll(6)), A: edge(), Yes: edge(), No: edge()}}
			for range roll(3) {
				b.Instrs = append(b.Instrs, ir.Instr{Kind: ir.Kind(roll(12)), Dst: edge(), A: edge(), B: edge(), Slot: edge()})
			}
			for range roll(3) {
				x := ir.Phi{Dst: edge()}
				for range roll(4) {
					x.From = append(x.From, edge())
				}
				for range roll(4) {
					x.Args = append(x.Args, edge())
				}
				b.Phis = append(b.Phis, x)
			}
			p.Blocks = append(p.Blocks, b)
		}
		if p.Check() != api.OK {
			wrong(t, fmt.Sprintf("%d: %+v", seed, p), p)
			count++
		}
	}
	if count < 10000 {
		t.Errorf("only %d programs that may not be", count)
	}
}

// P1: many blocks, with little stack; phis with many entries.
func TestGreat(t *testing.T) {
	defer debug.SetMaxStack(debug.SetMaxStack(1 << 20))
	const n = 100000
	var p ir.Program
	x := ir.Phi{Dst: 1}
	for i := range n {
		p.Blocks = append(p.Blocks, bare(i, jump((i+1)%n)))
		x.From, x.Args = append(x.From, i), append(x.Args, i)
	}
	p.Blocks[5].Phis = []ir.Phi{x}
	wrong(t, "a ring of many", p)
	if q := Reached(p); len(q.Blocks) != n || !slices.Equal(q.Blocks[5].Phis[0].From, []int{4}) {
		t.Errorf("Reached: a ring of many: %d blocks", len(q.Blocks))
	}
	if q := Front(p); len(q.Blocks) != n+1 || q.Blocks[0].Label != n {
		t.Errorf("Front: a ring of many: %d blocks", len(q.Blocks))
	}
	for i := range n {
		p.Blocks[i].Last = branch(1, i*7919%n, 5)
	}
	wrong(t, "many that go on at one", p)
	if q := Ways(p); len(q.Blocks[5].Phis[0].From) != n {
		t.Errorf("Ways: many entries: %d", len(q.Blocks[5].Phis[0].From))
	}
}

// P14.2: as many blocks and phis as may be, all of which go on at two: each way is parted, though limits don't last.
func TestMost(t *testing.T) {
	const n = api.MaxBlocks
	var p ir.Program
	x := ir.Phi{Dst: 1}
	for i := range n {
		p.Blocks = append(p.Blocks, bare(api.MaxLabel-1-i, branch(1, api.MaxLabel-1, api.MaxLabel-n+(i+1)%(n-1))))
		x.From, x.Args = append(x.From, api.MaxLabel-n+i), append(x.Args, i)
	}
	for range api.MaxInstrs - n {
		p.Blocks[0].Phis = append(p.Blocks[0].Phis, x)
	}
	may(t, "most", p)
	q := Edges(p)
	label := api.MaxLabel
	for i := range n {
		if q.Blocks[i].Last.Yes != label {
			t.Fatalf("P14.2: %d goes on at %d, not %d", i, q.Blocks[i].Last.Yes, label)
		}
		at := slices.IndexFunc(q.Blocks, func(b ir.Block) bool { return b.Label == label })
		if at < n || q.Blocks[at].Last != jump(api.MaxLabel-1) {
			t.Fatalf("P14.2: %d stands at %d: %+v", label, at, q.Blocks[at])
		}
		for _, y := range q.Blocks[0].Phis {
			if k, ok := slices.BinarySearch(y.From, label); !ok || k != i || y.Args[k] != n-1-i {
				t.Fatalf("P14.2: %d isn't entry %d of %v", label, i, y)
			}
		}
		label++
		if q.Blocks[i].Last.No >= api.MaxLabel {
			label++
		}
	}
	if label != Label(q) || len(q.Blocks) != n+crowdedWays(p) || crowdedWays(q) != 0 {
		t.Errorf("P14.2: %d blocks, labels up to %d", len(q.Blocks), label)
	}
	is(t, "P14.2: again, beyond limits, as it is", Edges(q), q)
}

// P14.1, P14.2: labels up to the greatest that may be.
func TestLastLabel(t *testing.T) {
	p := program(block(99997, branch(1, 99997, 3)), block(3, jump(99997)))
	makes(t, "P14.2: Edges: labels last", Edges, p, program(block(99997, branch(1, 99998, 3)), block(3, jump(99997)), bare(99998, jump(99997))))
	p = program(block(99999, branch(1, 99999, 3)), block(3, jump(99999)))
	is(t, "P14.2: Edges: labels don't last", Edges(p), program(block(99999, branch(1, 100000, 3)), block(3, jump(99999)), bare(100000, jump(99999))))
}

// spoil: whatever a program's lists have, their spare room too, becomes another.
func spoil(p ir.Program) {
	blocks := p.Blocks[:cap(p.Blocks)]
	for i := range blocks {
		b := &blocks[i]
		phis, instrs := b.Phis[:cap(b.Phis)], b.Instrs[:cap(b.Instrs)]
		for j := range phis {
			for _, l := range [][]int{phis[j].From[:cap(phis[j].From)], phis[j].Args[:cap(phis[j].Args)]} {
				for k := range l {
					l[k] = 777
				}
			}
			phis[j] = ir.Phi{Dst: 777}
		}
		for j := range instrs {
			instrs[j] = ir.Instr{Kind: ir.Out, A: 777}
		}
		blocks[i] = ir.Block{Label: 777, Last: ret(777)}
	}
}

// roomy: split, each list of which has spare room that isn't zero, a block more among it; and all that is there, as a copy.
func roomy() (p, whole ir.Program) {
	p = split()
	p.Blocks = append(p.Blocks, block(50, jump(4), from(7, 4, 4)))
	for i := range p.Blocks {
		b := &p.Blocks[i]
		b.Phis = append(b.Phis, from(8, 2, 2))
		for j := range b.Phis {
			x := &b.Phis[j]
			x.From, x.Args = append(x.From, 60), append(x.Args, 61)
		}
	}
	whole = p.Clone()
	p.Blocks = p.Blocks[:3]
	for i := range p.Blocks {
		b := &p.Blocks[i]
		for j := range b.Phis {
			x := &b.Phis[j]
			x.From, x.Args = x.From[:len(x.From)-1], x.Args[:len(x.Args)-1]
		}
		b.Phis, b.Instrs = b.Phis[:len(b.Phis)-1], b.Instrs[:2]
	}
	return p, whole
}

// filled: a program that roomy made, with its spare room.
func filled(p ir.Program) ir.Program {
	q := ir.Program{Blocks: slices.Clone(p.Blocks[:4])}
	for i := range 3 {
		b := &q.Blocks[i]
		b.Instrs = b.Instrs[:3]
		b.Phis = slices.Clone(b.Phis[:len(b.Phis)+1])
		for j := range b.Phis {
			x := &b.Phis[j]
			if j < len(b.Phis)-1 {
				x.From, x.Args = x.From[:len(x.From)+1], x.Args[:len(x.Args)+1]
			}
		}
	}
	return q
}

// R6: what is handed in is as it was, its spare room too.
func TestSpareRoom(t *testing.T) {
	for _, c := range calls() {
		for _, bad := range []bool{false, true} {
			p, whole := roomy()
			if bad {
				p.Blocks[1].Last.A, whole.Blocks[1].Last.A = -1, -1
			} else {
				may(t, "roomy", p)
			}
			before := filled(p).Clone()
			before.Blocks[3] = whole.Blocks[3]
			want := p.Clone()
			c.do(p)
			is(t, "R6: "+c.name+", what was handed in", p, want)
			is(t, "R6: "+c.name+", spare room", filled(p), before)
		}
	}
}

// R6: an answer is new memory: neither what was handed in, nor another answer, nor one list of it another.
func TestOwn(t *testing.T) {
	for _, c := range calls() {
		for _, bad := range []bool{false, true} {
			p := split()
			// Lists that are shared in what is handed in aren't in what is answered.
			p.Blocks[2].Instrs = p.Blocks[0].Instrs
			p.Blocks[2].Phis = p.Blocks[1].Phis
			if bad {
				p.Blocks[1].Last.A = -1
			}
			before := p.Clone()
			q, other := c.do(p), c.do(p)
			want := q.Clone()
			spoil(other)
			is(t, "R6: "+c.name+", another answer was changed", q, want)
			is(t, "R6: "+c.name+", an answer was changed", p, before)
			spoil(p)
			is(t, "R6: "+c.name+", what was handed in was changed", q, want)
			for i := range q.Blocks {
				spoil(ir.Program{Blocks: q.Blocks[i : i+1 : i+1]})
				want.Blocks[i] = bare(777, ret(777))
				is(t, fmt.Sprint("R6: ", c.name, ", its block ", i, " was changed"), q, want)
			}
		}
	}
}

// R6: of a block's phis no two lists share memory, nor does what is behind them.
func TestOwnLists(t *testing.T) {
	shared := []int{2, 4, 7}
	for _, c := range calls() {
		p := split()
		p.Blocks[1].Phis = []ir.Phi{{Dst: 9, From: shared, Args: shared}, {Dst: 10, From: shared, Args: shared}}
		may(t, "shared", p)
		q := c.do(p)
		want := q.Clone()
		for i := range q.Blocks {
			for j := range q.Blocks[i].Phis {
				x, y := q.Blocks[i].Phis[j], want.Blocks[i].Phis[j]
				for k := range x.From {
					x.From[k], y.From[k] = -1, -1
					is(t, "R6: "+c.name+", a label was changed", q, want)
					x.Args[k], y.Args[k] = -2, -2
					is(t, "R6: "+c.name+", a register was changed", q, want)
				}
				_, _ = append(x.From, 5), append(x.Args, 5)
				is(t, "R6: "+c.name+", a list was longer", q, want)
			}
		}
		if !slices.Equal(shared, []int{2, 4, 7}) {
			t.Errorf("R6: %s: %v", c.name, shared)
		}
	}
}
