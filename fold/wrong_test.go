package fold

import (
	"fmt"
	"maps"
	"math"
	"runtime/debug"
	"slices"
	"testing"

	"refinery/api"
	"refinery/ir"
	"refinery/strict"
	"refinery/word"
)

// wrong: of a program that may not be there are no facts, and it is answered as it is; it is as it was.
func wrong(t *testing.T, what any, p ir.Program) {
	t.Helper()
	if p.Check() == api.OK {
		t.Errorf("P18.1: %v: it may be: %+v", what, p)
	}
	before := p.Clone()
	if facts, there := Facts(p); len(facts) != 0 || len(there) != 0 {
		t.Errorf("P18.1: %v: %v %v", what, facts, there)
	}
	is(t, fmt.Sprint("P18.2: ", what), what, Fold(p), before)
	is(t, "R6: what was handed in", what, p, before)
}

// sample: of some blocks, of which one isn't reached by what is known, a round, phis that are known and some that aren't.
func sample() ir.Program {
	return program(
		block(4, jump(7), number(0, 1), input(1), do(word.Add, 2, 0, 0)),
		with(block(7, branch(1, 9, 3), copied(5, 3), output(4)), phi(3, [2]int{4, 0}, [2]int{9, 6}), phi(4, [2]int{4, 1}, [2]int{9, 5})),
		block(9, branch(5, 7, 2), do(word.Mul, 6, 3, 3), output(6)),
		with(block(2, jump(3), input(8), output(9)), phi(9, [2]int{9, 6})),
		with(block(3, ret(7), output(7), output(10)), phi(7, [2]int{2, 8}, [2]int{7, 1}), phi(10, [2]int{2, 2}, [2]int{7, 5})))
}

// The sample is of many kinds of what is folded.
func TestSample(t *testing.T) {
	folds(t, "sample", sample(), "@4:\n  %0 = 1\n  %1 = in\n  %2 = 2\n  jump @7\n@7:\n  %4 = phi %1 @4, %5 @9\n  %3 = 1\n  %5 = 1\n  out %4\n  br %1, @9, @3\n@9:\n  %6 = 1\n  out %6\n  jump @7\n@3:\n  %7 = phi %1 @7\n  %10 = 1\n  out %7\n  out %10\n  ret %7\n")
	tells(t, "sample", sample(), []int{0, 1, 2, 4}, map[int]Fact{0: known(1), 1: every, 2: known(2), 3: known(1), 4: every, 5: known(1), 6: known(1), 7: every, 10: known(1)})
}

// P18.1, P18.2: a program that may not be is answered as it is, whatever is wrong, wherever.
func TestMayNotBe(t *testing.T) {
	for at := range 5 {
		for name, change := range map[string]func(b *ir.Block){
			"a label":                   func(b *ir.Block) { b.Label = -1 },
			"a label too great":         func(b *ir.Block) { b.Label = api.MaxLabel },
			"an end":                    func(b *ir.Block) { b.Last.End = ir.Ends },
			"an end's form":             func(b *ir.Block) { b.Last = ir.Last{End: ir.Trap, Yes: 4} },
			"an end's register":         func(b *ir.Block) { b.Last = branch(api.MaxReg, 4, 7) },
			"an end's register below 0": func(b *ir.Block) { b.Last = ret(-1) },
			"an end's label":            func(b *ir.Block) { b.Last = branch(0, 3, 5) },
			"a kind":                    func(b *ir.Block) { b.Instrs[0].Kind = ir.Kinds },
			"an op":                     func(b *ir.Block) { b.Instrs[0] = do(word.Ops, 20, 0, 0) },
			"a form":                    func(b *ir.Block) { b.Instrs[0] = ir.Instr{Kind: ir.Const, Dst: 20, A: 1} },
			"a slot":                    func(b *ir.Block) { b.Instrs[0] = ir.Instr{Kind: ir.Load, Dst: 20, Slot: api.Slots} },
			"a register":                func(b *ir.Block) { b.Instrs[0] = copied(20, api.MaxReg) },
			"a register below 0":        func(b *ir.Block) { b.Instrs[0] = number(-1, 5) },
			"a phi's lists":             func(b *ir.Block) { b.Phis = []ir.Phi{{Dst: 20, From: []int{2, 4}, Args: []int{1}}} },
			"a phi without labels":      func(b *ir.Block) { b.Phis = []ir.Phi{{Dst: 20, Args: []int{1}}} },
			"a phi without registers":   func(b *ir.Block) { b.Phis = []ir.Phi{{Dst: 20, From: []int{4}}} },
			"a phi's labels":            func(b *ir.Block) { b.Phis = []ir.Phi{phi(20, [2]int{4, 0}, [2]int{2, 0})} },
			"a phi's label":             func(b *ir.Block) { b.Phis = []ir.Phi{phi(20, [2]int{8, 0})} },
			"a phi's register":          func(b *ir.Block) { b.Phis = []ir.Phi{phi(api.MaxReg)} },
			"a phi's entry":             func(b *ir.Block) { b.Phis = []ir.Phi{phi(20, [2]int{4, -1})} },
			"many instructions":         func(b *ir.Block) { b.Instrs = slices.Repeat([]ir.Instr{number(20, 1)}, api.MaxInstrs) },
		} {
			p := sample()
			change(&p.Blocks[at])
			wrong(t, fmt.Sprint(name, " in ", at), p)
		}
	}
	twice := sample()
	twice.Blocks[2].Label = 7
	wrong(t, "a label twice", twice)
	many := sample()
	for i := range api.MaxBlocks {
		many.Blocks = append(many.Blocks, block(10+i, trap()))
	}
	wrong(t, "many blocks", many)
	wrong(t, "no blocks", ir.Program{})
	wrong(t, "R5: no blocks, empty", ir.Program{Blocks: []ir.Block{}})
	wrong(t, "zero blocks", ir.Program{Blocks: make([]ir.Block, 3)})
}

// R5, R7: zero objects, nil and empty lists.
func TestZero(t *testing.T) {
	for _, l := range [][]ir.Instr{nil, {}} {
		p := ir.Program{Blocks: []ir.Block{{Phis: []ir.Phi{}, Instrs: l, Last: trap()}}}
		tells(t, "R5: empty lists", p, []int{0}, nil)
		folds(t, "R5: empty lists", p, "@0:\n  trap\n")
	}
	empty := program(with(block(0, ret(1)), ir.Phi{Dst: 1, From: []int{}, Args: []int{}}))
	tells(t, "R5: an empty list of entries", empty, []int{0}, nil)
	folds(t, "R5: an empty list of entries", empty, "@0:\n  %1 = phi\n  ret %1\n")
	folds(t, "R7: a zero instruction", program(block(0, ret(0), ir.Instr{})), "@0:\n  %0 = 0\n  ret %0\n")
	folds(t, "R7: a zero phi", program(with(block(0, trap()), ir.Phi{})), "@0:\n  %0 = phi\n  trap\n")
	if f := Meet(Fact{}, Fact{}); f != (Fact{}) {
		t.Errorf("R7: %v", f)
	}
	if Unknown != 0 || Known != 1 || Any != 2 {
		t.Error("the states are others")
	}
}

// ends: a program that may be, whether it is strict or not: both calls end, answer the same twice, and change nothing.
func ends(t *testing.T, what any, p ir.Program) {
	t.Helper()
	before := p.Clone()
	facts, there := Facts(p)
	again, there2 := Facts(p)
	if len(there) != len(p.Blocks) || !maps.Equal(facts, again) || !slices.Equal(there, there2) {
		t.Errorf("R8: %v: %v %v, %v %v", what, facts, there, again, there2)
	}
	is(t, "R8: twice", what, Fold(p), Fold(p))
	is(t, "R6: what was handed in", what, p, before)
}

// P1: whatever kinds, ends, labels, registers, phis; programs that may be, but aren't strict, too.
func TestWrongAny(t *testing.T) {
	edges := []int{math.MinInt, -1, 0, 0, 1, 1, 2, 2, 15, 16, 99999, 100000, math.MaxInt}
	bad := 0
	for seed := range 10000 {
		roll := dice(uint64(seed) + 15)
		edge := func() int { return edges[roll(len(edges))] }
		var p ir.Program
		for range roll(8) {
			b := block(edge(), ir.Last{End: ir.End(roll(6)), A: edge(), Yes: edge(), No: edge()})
			for range roll(4) {
				b.Instrs = append(b.Instrs, ir.Instr{Kind: ir.Kind(roll(12)), Op: word.Op(roll(14)), Dst: edge(), A: edge(), B: edge(), N: int64(edge()), Slot: edge()})
			}
			for range roll(3) {
				b.Phis = append(b.Phis, ir.Phi{Dst: edge(), From: []int{edge(), edge()}[:roll(3)], Args: []int{edge(), edge()}[:roll(3)]})
			}
			p.Blocks = append(p.Blocks, b)
		}
		if p.Check() != api.OK {
			wrong(t, fmt.Sprintf("%d: %+v", seed, p), p)
			bad++
		} else {
			ends(t, p, p)
		}
	}
	others := 0
	for seed := range 3000 {
		roll := dice(uint64(seed) + 16)
		n, registers := 1+roll(8), 1+roll(5)
		p := anyPlain(roll, n, registers, 5)
		p.Blocks[0].Instrs = p.Blocks[0].Instrs[roll(registers+1):]
		for i := range p.Blocks {
			for range roll(3) {
				var entries [][2]int
				for j := range n {
					if roll(2) == 0 {
						entries = append(entries, [2]int{p.Blocks[j].Label, roll(registers)})
					}
				}
				slices.SortFunc(entries, func(x, y [2]int) int { return x[0] - y[0] })
				p.Blocks[i] = with(p.Blocks[i], phi(roll(registers), entries...))
			}
		}
		ends(t, p, p)
		if strict.Check(p) != api.OK {
			others++
		}
	}
	if bad < 5000 || others < 2500 {
		t.Errorf("only %d that may not be, %d that aren't strict", bad, others)
	}
}

// P1: one that sets a register at two places ends, each of which changes what the other one has told.
func TestNotStrict(t *testing.T) {
	ends(t, "two numbers", program(block(0, ret(0), number(0, 1), number(0, 2))))
	ends(t, "one more each time", program(block(0, jump(0), number(1, 1), do(word.Add, 0, 0, 1))))
	ends(t, "two that change each other", program(block(0, branch(0, 0, 1), number(0, 1), copied(1, 0)), block(1, branch(1, 0, 1), number(1, 0), copied(0, 1))))
	ends(t, "a block that isn't reached", program(block(0, ret(0), number(0, 1)), block(1, ret(0), copied(1, 0))))
	ends(t, "a phi of the first", program(with(block(0, branch(1, 0, 0), do(word.Add, 1, 0, 0)), phi(0, [2]int{0, 1}))))
	ends(t, "one that nobody sets", program(block(0, branch(7, 0, 0), copied(1, 7), do(word.Add, 2, 1, 7))))
	ends(t, "R7: a zero block, which goes on at itself", program(ir.Block{}))
}

// P1: very many blocks, instructions, entries, with little stack.
func TestGreat(t *testing.T) {
	defer debug.SetMaxStack(debug.SetMaxStack(1 << 20))
	const n = 100000
	var p ir.Program
	for i := range n {
		p.Blocks = append(p.Blocks, block(i, jump((i+1)%n), number(i, 1), copied(i, i)))
	}
	wrong(t, "a ring of many", p)
	wrong(t, "many instructions", program(block(0, trap(), slices.Repeat([]ir.Instr{number(1, 1)}, n)...)))
	long := phi(1)
	for i := range n {
		long.From, long.Args = append(long.From, i), append(long.Args, i)
	}
	wrong(t, "a long phi", program(with(block(0, trap()), long)))
}

// P18.1, P18.2: as many blocks and instructions as may be: a row, from behind to the front, of numbers that are known; likewise of some that aren't.
func TestMany(t *testing.T) {
	const n = api.MaxBlocks
	for _, first := range []ir.Instr{number(99999, 3), input(99999)} {
		var p ir.Program
		for i := range n {
			p.Blocks = append(p.Blocks, block(i, jump((i+n-1)%n)))
			b := &p.Blocks[i]
			for k := range 9 {
				b.Instrs = append(b.Instrs, do(word.Add, i*9+k, max(i*9+k+1, 0), 99999))
			}
			if i == n-1 {
				b.Instrs[8] = copied(i*9+8, 99999)
			}
			slices.Reverse(b.Instrs)
		}
		// The last goes ahead of all, behind the first.
		p.Blocks[1].Last = trap()
		p.Blocks[0] = block(0, jump(n-1), slices.Insert(slices.Repeat([]ir.Instr{output(99999)}, 8), 0, first)...)
		if p.Count() != api.MaxInstrs || strict.Check(p) != api.OK {
			t.Fatalf("%d instructions, error %d", p.Count(), strict.Check(p))
		}
		q := Fold(p)
		if err := strict.Check(q); err != api.OK || q.Count() != api.MaxInstrs {
			t.Errorf("P4: error %d, %d instructions", err, q.Count())
		}
		if facts, _ := Facts(p); len(facts) != (n-1)*9+1 || first.Kind == ir.Const && facts[9] != known(3*(n-1)*9) || first.Kind == ir.In && facts[9] != every {
			t.Errorf("P18.1: %d: %v", len(facts), facts[9])
		}
		if first.Kind == ir.In && !ir.Same(p, q) {
			t.Error("P18.2: nothing is known, but it is another")
		}
	}
}

// manyPhis: as many phis as may be, of as many entries as may be: each block but the first goes on at the next one and at the last, which goes round, where a phi has the next one; all others have the same number, but those from one block, if that isn't the first.
func manyPhis(other int) ir.Program {
	const n, phis = api.MaxBlocks, api.MaxInstrs - 2*api.MaxBlocks + 1
	p := program(block(0, jump(1), input(n)))
	for i := 1; i < n-1; i++ {
		p.Blocks = append(p.Blocks, block(i, branch(n, i+1, n-1), number(i, 7)))
	}
	if other > 0 {
		p.Blocks[other].Instrs[0].N = 8
	}
	last := block(n-1, branch(n, n-1, n-2))
	for r := range phis {
		x := phi(n + 1 + r)
		for i := 1; i < n; i++ {
			x.From, x.Args = append(x.From, i), append(x.Args, i)
		}
		x.Args[n-2] = n + 1 + (r+1)%phis
		last.Phis = append(last.Phis, x)
	}
	p.Blocks = append(p.Blocks, last)
	return p
}

// P18.1, P1: as many phis as may be, of as many entries as may be.
func TestManyPhis(t *testing.T) {
	const n = api.MaxBlocks
	for _, other := range []int{0, n - 2} {
		p := manyPhis(other)
		if err := strict.Check(p); err != api.OK || p.Count() != api.MaxInstrs {
			t.Fatalf("error %d, %d instructions", err, p.Count())
		}
		facts, there := Facts(p)
		want := known(7)
		if other > 0 {
			want = every
		}
		for _, x := range p.Blocks[n-1].Phis {
			if facts[x.Dst] != want {
				t.Fatalf("P18.1: many phis, %d: %v, not %v", other, facts[x.Dst], want)
			}
		}
		if slices.Contains(there, false) {
			t.Errorf("P18.1: %v", there)
		}
		if q := Fold(p); len(q.Blocks) != n || (len(q.Blocks[n-1].Phis) == 0) != (other == 0) {
			t.Errorf("P18.2: many phis, %d: %d blocks", other, len(q.Blocks))
		}
	}
}

// spoil: whatever a program's lists have, their spare room too, becomes another.
func spoil(p ir.Program) {
	blocks := p.Blocks[:cap(p.Blocks)]
	for i := range blocks {
		b := &blocks[i]
		phis, instrs := b.Phis[:cap(b.Phis)], b.Instrs[:cap(b.Instrs)]
		for j := range phis {
			for _, l := range [][]int{phis[j].From[:cap(phis[j].From)], phis[j].Args[:cap(phis[j].Args)]} {
				for k := range l {
					l[k] = 777
				}
			}
			phis[j] = ir.Phi{Dst: 777}
		}
		for j := range instrs {
			instrs[j] = output(777)
		}
		blocks[i] = block(777, ret(777))
	}
}

// some: one that may not be, one of which much is folded, one of which nothing is.
func some() map[string]ir.Program {
	bad, still := sample(), sample()
	bad.Blocks[1].Last.A = -1
	still.Blocks[0].Instrs[0] = input(0)
	return map[string]ir.Program{"one that may not be": bad, "sample": sample(), "nothing is known": still}
}

// R6: what is handed in is as it was, its spare room too.
func TestSpareRoom(t *testing.T) {
	for name, whole := range some() {
		for i := range whole.Blocks {
			b := &whole.Blocks[i]
			b.Phis, b.Instrs = append(b.Phis, phi(40+i, [2]int{50, 51})), append(b.Instrs, output(60+i))
			for k := range b.Phis {
				b.Phis[k].From, b.Phis[k].Args = append(b.Phis[k].From, 70), append(b.Phis[k].Args, 71)
			}
		}
		whole.Blocks = append(whole.Blocks, block(80, trap()))
		before := whole.Clone()
		p := ir.Program{Blocks: slices.Clone(whole.Blocks)[:5]}
		for i := range p.Blocks {
			b := &p.Blocks[i]
			b.Phis, b.Instrs = slices.Clone(b.Phis)[:len(b.Phis)-1], b.Instrs[:len(b.Instrs)-1]
			for k, x := range b.Phis {
				b.Phis[k].From, b.Phis[k].Args = x.From[:len(x.From)-1], x.Args[:len(x.Args)-1]
			}
		}
		is(t, "the sample", name, p, some()[name])
		Facts(p)
		is(t, "R6", name, Fold(p), Fold(some()[name]))
		is(t, "R6", name, p, some()[name])
		is(t, "R6: spare room", name, whole, before)
	}
}

// R6: an answer is new memory: neither what was handed in, nor another answer, nor one list of it another.
func TestOwn(t *testing.T) {
	for name, p := range some() {
		before := p.Clone()
		q, other := Fold(p), Fold(p)
		want := q.Clone()
		spoil(other)
		is(t, "R6: another answer was changed", name, q, want)
		is(t, "R6: an answer was changed", name, p, before)
		facts, there := Facts(p)
		more, there2 := Facts(p)
		clear(more)
		clear(there2)
		if again, there3 := Facts(p); !maps.Equal(facts, again) || !slices.Equal(there, there3) {
			t.Errorf("R6: facts were changed: %s: %v %v, not %v %v", name, facts, there, again, there3)
		}
		spoil(p)
		is(t, "R6: what was handed in was changed", name, q, want)
		for i := range q.Blocks {
			spoil(ir.Program{Blocks: q.Blocks[i : i+1 : i+1]})
			want.Blocks[i] = block(777, ret(777))
			is(t, fmt.Sprint("R6: its block ", i, " was changed"), name, q, want)
		}
	}
}
