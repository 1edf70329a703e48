package fold

import (
	"fmt"
	"slices"
	"testing"

	"refinery/api"
	"refinery/clean"
	"refinery/ir"
	"refinery/run"
	"refinery/slots"
	"refinery/ssa"
	"refinery/strict"
	"refinery/sure"
	"refinery/word"
)

// tally is how many programs there were of which something was folded.
type tally struct {
	programs, consts, phis, jumps, left int
	ends                                [run.Ends]int
}

func (l *tally) most(t *testing.T, n int) {
	t.Helper()
	if slices.Min(append([]int{l.programs, l.consts, l.phis, l.jumps, l.left}, l.ends[:]...)) < n {
		t.Errorf("too few: %+v", *l)
	}
}

// count: what became of a program.
func (l *tally) count(p, q ir.Program) {
	l.programs++
	count := func(q ir.Program) (consts, phis, jumps int) {
		for _, b := range q.Blocks {
			phis += len(b.Phis)
			if b.Last.End == ir.Jump {
				jumps++
			}
		}
		for _, x := range q.Instrs() {
			if x.Kind == ir.Const {
				consts++
			}
		}
		return
	}
	c, f, j := count(p)
	d, g, k := count(q)
	l.consts += min(max(d-c, 0), 1)
	l.phis += min(max(f-g, 0), 1)
	l.jumps += min(max(k-j, 0), 1)
	l.left += len(p.Blocks) - len(q.Blocks)
}

// sees: what is told of a strict program, what it is folded to, and what that does.
func (l *tally) sees(t *testing.T, what any, p ir.Program, fuel int, ins ...[]int64) {
	t.Helper()
	q := holds(t, what, p)
	l.count(p, q)
	for _, in := range ins {
		l.ends[acts(t, what, p, q, in, fuel).End]++
	}
}

// all: all programs, block by block of a choice each.
func all(choice [][]ir.Block, row []ir.Block, see func(p ir.Program)) {
	if len(choice) == 0 {
		see(ir.Program{Blocks: row})
		return
	}
	for _, b := range choice[0] {
		all(choice[1:], append(row[:len(row):len(row)], b), see)
	}
}

// each: all blocks of a label out of these phis, rows of instructions, ends.
func each(label int, phis [][]ir.Phi, bodies [][]ir.Instr, ends ...ir.Last) []ir.Block {
	var l []ir.Block
	for _, x := range phis {
		for _, body := range bodies {
			for _, end := range ends {
				l = append(l, with(block(label, end, body...), x...))
			}
		}
	}
	return l
}

// rounds: all strict programs of a first block, a round of one or two blocks, one behind it.
func rounds(see func(p ir.Program)) {
	see2 := func(p ir.Program) {
		if strict.Check(p) == api.OK {
			see(p)
		}
	}
	none := [][]ir.Phi{nil}
	first := each(7, [][]ir.Phi{nil, {phi(0)}}, [][]ir.Instr{{number(0, 1)}, {input(0)}, {}}, jump(3), branch(0, 3, 5))
	bodies := [][]ir.Instr{{copied(2, 1)}, {do(word.Mul, 2, 1, 0)}, {do(word.Add, 2, 1, 0)}, {number(2, 1)}, {input(2)}, {number(2, 0), output(1)}}
	phis := [][]ir.Phi{{phi(1, [2]int{3, 2}, [2]int{7, 0})}, {phi(1, [2]int{4, 3}, [2]int{7, 0})}, {phi(1, [2]int{3, 2}, [2]int{4, 3}, [2]int{7, 0})}, {phi(1, [2]int{7, 0})}}
	ends := []ir.Last{branch(1, 3, 5), branch(2, 5, 3), branch(2, 4, 5), branch(1, 5, 4), branch(2, 3, 4)}
	behind := []ir.Block{block(5, ret(0)), with(block(5, ret(4)), phi(4, [2]int{3, 1}, [2]int{7, 0})), with(block(5, ret(4)), phi(4, [2]int{3, 2}, [2]int{4, 3}))}
	all([][]ir.Block{first, each(3, phis[:1], bodies, ends[:2]...), behind}, nil, see2)
	all([][]ir.Block{first, each(3, phis, bodies, ends...), each(4, none, [][]ir.Instr{{copied(3, 2)}, {number(3, 1)}, {do(word.Sub, 3, 2, 1)}}, jump(3), branch(2, 3, 5), branch(3, 5, 3)), behind}, nil, see2)
}

// P18.1, P18.2, P3, P4: all strict programs out of rows of instructions, phis and ends, with rounds.
func TestSmall(t *testing.T) {
	var met tally
	rounds(func(p ir.Program) {
		if !t.Failed() {
			met.sees(t, p, p, 30, nil, []int64{0, 0, 1, 1}, []int64{1, 0, 2, 1, 0, 0, 3}, []int64{2, 2, 2, 2, 2, 2, 2, 2, 2, 2, 2, 2, 2})
		}
	})
	met.most(t, 300)
}

// below: is a fact as low as another one, or lower?
func below(a, b Fact) bool { return a == none || a == b || b == every }

// least: of all facts and blocks that are so by the chapter's words, as far as their numbers are among some, what is told is the least; how many there were.
func least(t *testing.T, p ir.Program, numbers ...int64) int {
	t.Helper()
	var regs []int
	for _, b := range p.Blocks {
		for _, x := range b.Phis {
			regs = append(regs, x.Dst)
		}
		for _, x := range b.Instrs {
			if r, ok := x.Sets(); ok {
				regs = append(regs, r)
			}
		}
	}
	facts := []Fact{none, every}
	for _, n := range numbers {
		facts = append(facts, known(n))
	}
	told, there := Facts(p)
	count := 0
	f := found{facts: map[int]Fact{}, there: make([]bool, len(p.Blocks))}
	see := func() {
		g := f.next(p)
		for i := range g.there {
			if g.there[i] && !f.there[i] {
				return
			}
		}
		for r, x := range g.facts {
			if f.facts[r] != x {
				return
			}
		}
		count++
		for i := range there {
			if there[i] && !f.there[i] {
				t.Errorf("P18.1: %+v: %v isn't the least: %v", p, there, f)
			}
		}
		for r, x := range told {
			if !below(x, f.facts[r]) {
				t.Errorf("P18.1: %+v: %v isn't the least: %v", p, told, f)
			}
		}
	}
	var choose func(k int)
	choose = func(k int) {
		if k < len(regs) {
			for _, x := range facts {
				f.facts[regs[k]] = x
				choose(k + 1)
			}
			return
		}
		for some := range 1 << (len(p.Blocks) - 1) {
			for i := range f.there {
				f.there[i] = i == 0 || some>>(i-1)&1 == 1
			}
			see()
		}
	}
	choose(0)
	return count
}

// P18.1: they are the least facts and blocks of all that are so.
func TestLeast(t *testing.T) {
	programs, count, n := 0, 0, 0
	rounds(func(p ir.Program) {
		if n++; n%13 == 0 && !t.Failed() {
			programs++
			count += least(t, p, 0, 1)
		}
	})
	count += least(t, round(7, branch(9, 1, 2), copied(2, 1)), 7, 8, 9)
	if programs < 100 || count < 2*programs {
		t.Errorf("%d programs, %d that are so", programs, count)
	}
}

// dice: a row of numbers that is the same each time.
func dice(seed uint64) func(n int) int {
	return func(n int) int {
		seed = seed*6364136223846793005 + 1442695040888963407
		return int(seed>>33) % n
	}
}

// anyInstr: more often than not a number, a copy, a Do.
func anyInstr(roll func(int) int, registers int) ir.Instr {
	x := ir.Instr{Kind: ir.Kind(roll(int(ir.Kinds))), Op: word.Op(roll(int(word.Ops))), Dst: roll(registers), A: roll(registers), B: roll(registers), N: int64(roll(4) - 1), Slot: roll(3)}
	if x.Kind > ir.Do && roll(3) > 0 {
		x.Kind = ir.Kind(roll(3))
	}
	if x.Kind >= ir.Get && roll(3) > 0 {
		x.Kind = ir.Out
	}
	return x.Only()
}

// anyPlain: any plain program, of n blocks whose labels don't rise as their places do; the first begins with all registers set, most of them to a number.
func anyPlain(roll func(int) int, n, registers, instrs int) ir.Program {
	label := func(i int) int { return i * 7 % 1009 }
	var p ir.Program
	for i := range n {
		b := block(label(i), ir.Last{End: ir.End(roll(int(ir.Ends))), A: roll(registers), Yes: label(roll(n)), No: label(min(i+roll(4), n-1))})
		for range roll(instrs + 1) {
			b.Instrs = append(b.Instrs, anyInstr(roll, registers))
		}
		if b.Last.End >= ir.Return && roll(5) > 0 {
			b.Last.End = ir.Branch
		}
		b.Last = b.Last.Only()
		p.Blocks = append(p.Blocks, b)
	}
	var begin []ir.Instr
	for r := range registers {
		if roll(4) == 0 {
			begin = append(begin, input(r))
		} else {
			begin = append(begin, number(r, int64(roll(3)-1)))
		}
	}
	p.Blocks[0].Instrs = append(begin, p.Blocks[0].Instrs...)
	return p
}

// anyStrict: what ssa makes of any sure program, with slots as registers, or not; of some a few numbers of the first block are phis without entries.
func anyStrict(roll func(int) int, n, registers, instrs int) (ir.Program, bool) {
	p := anyPlain(roll, n, registers, instrs)
	if roll(3) == 0 {
		p = slots.Lift(p)
	}
	if roll(3) == 0 {
		p = clean.Front(p)
	}
	if sure.Check(p) != api.OK {
		return p, false
	}
	q := ssa.Make(p)
	if roll(4) == 0 {
		b := &q.Blocks[0]
		b.Instrs = slices.DeleteFunc(b.Instrs, func(x ir.Instr) bool {
			if x.Kind == ir.Const && roll(3) == 0 {
				b.Phis = append(b.Phis, phi(x.Dst))
				return true
			}
			return false
		})
	}
	return q, strict.Check(q) == api.OK
}

// changed: one that is nearly the same: what is read or set at one of its places is another.
func changed(roll func(int) int, p ir.Program) ir.Program {
	q := p.Clone()
	b := &q.Blocks[roll(len(q.Blocks))]
	registers := q.Regs()
	if len(b.Phis) > 0 && roll(2) == 0 {
		x := b.Phis[roll(len(b.Phis))]
		for k := range x.Args {
			if roll(2) == 0 {
				x.Args[k] = roll(registers)
			}
		}
		return q
	}
	if len(b.Instrs) > 0 && roll(3) > 0 {
		k := roll(len(b.Instrs))
		x := b.Instrs[k]
		if r, ok := x.Sets(); ok && roll(2) == 0 {
			y := anyInstr(roll, registers)
			if y.Dst = r; y.Only() == y {
				b.Instrs[k] = y
			}
			return q
		}
		b.Instrs[k] = x.Turned(func(int) int { return roll(registers) })
		return q
	}
	b.Last.A = roll(registers)
	b.Last = b.Last.Only()
	return q
}

func anyInputs(roll func(int) int) []int64 {
	var in []int64
	for range roll(12) {
		in = append(in, int64(roll(4)-1))
	}
	return in
}

// P18.1, P18.2, P3, P4: any strict programs, what they become by changes, and what is folded again.
func TestAny(t *testing.T) {
	var met, later tally
	for seed := range 3000 {
		roll := dice(uint64(seed) + 23)
		p, ok := anyStrict(roll, 1+roll(10), 1+roll(6), 4)
		if !ok {
			continue
		}
		met.sees(t, fmt.Sprintf("any, %d: %+v", seed, p), p, 80, anyInputs(roll), anyInputs(roll))
		q := Fold(p)
		later.sees(t, fmt.Sprintf("folded again, %d: %+v", seed, q), q, 80, anyInputs(roll))
		for i := range 6 {
			r := changed(roll, p)
			if strict.Check(r) == api.OK {
				later.sees(t, fmt.Sprintf("changed, %d, %d: %+v", seed, i, r), r, 80, anyInputs(roll))
			}
		}
		if t.Failed() {
			return
		}
	}
	met.most(t, 500)
	later.most(t, 1000)
}

// P18.1, P18.2, P3, P4: many blocks and registers, up to as many as may be.
func TestAnyMany(t *testing.T) {
	var met tally
	for seed := range 60 {
		roll := dice(uint64(seed) + 71)
		n, registers := 50, 3+roll(20)
		if seed%10 == 0 {
			n, registers = api.MaxBlocks-1, 2+roll(3)
		}
		p, ok := anyStrict(roll, n, registers, 6)
		if ok {
			met.sees(t, fmt.Sprint("many, ", seed), p, 300, anyInputs(roll), anyInputs(roll))
		}
	}
	if met.programs < 40 || met.phis < 10 || met.jumps < 10 {
		t.Errorf("too few: %+v", met)
	}
}
