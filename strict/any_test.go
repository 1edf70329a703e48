package strict

import (
	"fmt"
	"slices"
	"testing"

	"refinery/api"
	"refinery/clean"
	"refinery/ir"
	"refinery/slots"
	"refinery/ssa"
	"refinery/sure"
	"refinery/word"
)

// tally is how many programs of each error there were.
type tally [api.ErrNumber + 1]int

// most: there were at least so many of each of these.
func (l tally) most(t *testing.T, n int, errs ...api.Errno) {
	t.Helper()
	for _, err := range errs {
		if l[err] < n {
			t.Errorf("of error %d only %d: %v", err, l[err], l)
		}
	}
}

// holds: Check of any program against the chapter's words; of one whose registers are each set at one place also against all ways gone, if few: its registers are below 64, and its ways not too many to go.
func (l *tally) holds(t *testing.T, what any, p ir.Program, few bool) {
	t.Helper()
	err := plain(p)
	checks(t, what, p, err)
	l[err]++
	if few && (err == api.OK || err == api.ErrUnset) && goneUnset(p) != (err == api.ErrUnset) {
		t.Errorf("P17.1: %+v: error %d, but by its ways %v", what, err, goneUnset(p))
	}
}

// sees: what Check says of any program of few ways, and of what is made of it; is it sure?
func (l *tally) sees(t *testing.T, p ir.Program) bool {
	t.Helper()
	if t.Failed() {
		return false
	}
	l.holds(t, p, p, true)
	_, ok := made(t, p)
	return ok
}

// made: P4: what ssa makes of a sure program is strict; of the same with slots as registers, too, and without blocks that aren't reached. One that isn't sure isn't asked.
func made(t *testing.T, p ir.Program) (ir.Program, bool) {
	t.Helper()
	if sure.Check(p) != api.OK {
		return p, false
	}
	for name, q := range map[string]ir.Program{"as it is": p, "lifted": slots.Lift(p), "reached": clean.Reached(p), "in front": clean.Front(p)} {
		if err := Check(ssa.Make(q)); err != api.OK {
			t.Errorf("P4: %s: error %d of what is made of %+v", name, err, q)
		}
	}
	return ssa.Make(p), true
}

// all: all programs, block by block of a choice each.
func all(choice [][]ir.Block, row []ir.Block, see func(p ir.Program)) {
	if len(choice) == 0 {
		see(ir.Program{Blocks: row})
		return
	}
	for _, b := range choice[0] {
		all(choice[1:], append(row[:len(row):len(row)], b), see)
	}
}

// each: all blocks of a label out of these phis, rows of instructions, ends.
func each(label int, phis [][]ir.Phi, bodies [][]ir.Instr, ends []ir.Last) []ir.Block {
	var l []ir.Block
	for _, x := range phis {
		for _, body := range bodies {
			for _, end := range ends {
				l = append(l, with(block(label, end, body...), x...))
			}
		}
	}
	return l
}

// goes: all ends on labels, that read these registers.
func goes(labels []int, regs ...int) []ir.Last {
	l := []ir.Last{trap()}
	for _, r := range regs {
		l = append(l, ret(r))
	}
	for i, yes := range labels {
		l = append(l, jump(yes))
		for _, no := range labels[i+1:] {
			l = append(l, branch(regs[0], yes, no))
		}
	}
	return l
}

// P17.1, P4: all programs of one and two blocks out of phis, rows of instructions, ends.
func TestSmall(t *testing.T) {
	bodies := [][]ir.Instr{nil, {input(0)}, {input(1)}, {output(1)}, {copied(1, 0)}, {input(0), output(1)}, {output(1), input(0)}}
	phis := [][]ir.Phi{
		nil,
		{phi(0)},
		{phi(1, [2]int{8, 0})},
		{phi(0, [2]int{3, 0}, [2]int{8, 1})},
		{phi(1, [2]int{3, 1}, [2]int{8, 0})},
		{phi(0, [2]int{3, 1}, [2]int{8, 0}), phi(1, [2]int{3, 0}, [2]int{8, 2})},
	}
	var met tally
	sures := 0
	see := func(p ir.Program) {
		if met.sees(t, p) {
			sures++
		}
	}
	all([][]ir.Block{each(8, phis, bodies, goes([]int{8}, 0, 1))}, nil, see)
	two := goes([]int{3, 8}, 0, 1)
	all([][]ir.Block{each(8, phis, bodies, two), each(3, phis, bodies, two)}, nil, see)
	// A third one ahead of both, so that neither is the first.
	var before []ir.Block
	for _, l := range []ir.Last{jump(8), branch(2, 3, 8)} {
		before = append(before, block(5, l, input(2)), block(5, l, input(2), input(0), input(1)))
	}
	behind := [][]ir.Phi{nil, {phi(1, [2]int{3, 1}, [2]int{5, 2})}, {phi(0, [2]int{5, 2}, [2]int{8, 2})}, {phi(0, [2]int{8, 1})}}
	all([][]ir.Block{before, each(8, behind, bodies, two), each(3, behind, bodies, two)}, nil, see)
	met.most(t, 200, api.OK, api.ErrForm, api.ErrTwice, api.ErrUnset)
	if sures < 100 {
		t.Errorf("P4: only %d sure programs", sures)
	}
}

// P17.1, P4: many of three and four blocks behind a first one that sets a register.
func TestThreeAndFour(t *testing.T) {
	var met tally
	sures := 0
	see := func(p ir.Program) {
		if met.sees(t, p) {
			sures++
		}
	}
	first := []ir.Block{block(7, branch(0, 9, 2), input(0)), block(7, jump(9), input(0), input(1))}
	three := []int{2, 4, 9}
	ends := []ir.Last{ret(1), ret(2), jump(4), branch(0, 2, 4), branch(0, 4, 9), branch(0, 9, 2)}
	none := [][]ir.Phi{nil}
	phis := [][]ir.Phi{nil, {phi(2, [2]int{2, 0}, [2]int{9, 1})}, {phi(2, [2]int{2, 1}, [2]int{4, 2}, [2]int{9, 0})}, {phi(2, [2]int{4, 2}, [2]int{9, 3})}}
	all([][]ir.Block{
		first,
		each(9, [][]ir.Phi{nil, {phi(3, [2]int{4, 2}, [2]int{7, 0})}}, [][]ir.Instr{nil, {input(1)}, {input(3)}}, goes(three, 0)),
		each(2, none, [][]ir.Instr{nil, {input(1)}, {output(2)}}, ends),
		each(4, phis, [][]ir.Instr{nil, {output(1)}, {copied(4, 2)}}, ends),
	}, nil, see)
	four := []ir.Last{ret(0), jump(4), branch(0, 2, 4), branch(0, 4, 5), branch(0, 5, 9)}
	all([][]ir.Block{
		first[:1],
		each(9, none, [][]ir.Instr{nil, {input(1)}}, four),
		each(2, none, [][]ir.Instr{nil, {input(2)}}, four),
		each(4, none, [][]ir.Instr{nil, {input(3)}}, four),
		each(5, none, [][]ir.Instr{{output(1)}, {output(2)}, {output(3)}}, four),
	}, nil, see)
	met.most(t, 200, api.OK, api.ErrForm, api.ErrTwice, api.ErrUnset)
	if sures < 100 {
		t.Errorf("P4: only %d sure programs", sures)
	}
}

// dice: a row of numbers that is the same each time.
func dice(seed uint64) func(n int) int {
	return func(n int) int {
		seed = seed*6364136223846793005 + 1442695040888963407
		return int(seed>>33) % n
	}
}

// anyPlain: any plain program, of n blocks whose labels don't rise as their places do; the first begins with all registers set, but sometimes 0, so that many are sure, some of them by what is set on each way.
func anyPlain(roll func(int) int, n, registers int) ir.Program {
	label := func(i int) int { return i * 7 % 1009 }
	var p ir.Program
	for i := range n {
		b := block(label(i), ir.Last{End: ir.End(roll(int(ir.Ends))), A: roll(registers), Yes: label(roll(n)), No: label(min(i+roll(4), n-1))})
		for range roll(5) {
			x := ir.Instr{Kind: ir.Kind(roll(int(ir.Kinds))), Op: word.Op(roll(int(word.Ops))), Dst: roll(registers), A: roll(registers), B: roll(registers), Slot: roll(3)}
			b.Instrs = append(b.Instrs, x.Only())
		}
		if b.Last.End >= ir.Return && roll(5) > 0 {
			b.Last.End = ir.Branch
		}
		b.Last = b.Last.Only()
		p.Blocks = append(p.Blocks, b)
	}
	for r := roll(2); r < registers; r++ {
		p.Blocks[0].Instrs = slices.Insert(p.Blocks[0].Instrs, 0, number(r, int64(r)))
	}
	return p
}

// changed: one that is nearly the same: what is at one of its places is another.
func changed(roll func(int) int, p ir.Program) ir.Program {
	q := p.Clone()
	n, registers := len(q.Blocks), q.Regs()+1
	b, c := &q.Blocks[roll(n)], &q.Blocks[roll(n)]
	switch roll(9) {
	case 0:
		b.Last.A = roll(registers)
		b.Last = b.Last.Only()
	case 1:
		b.Last.Yes = c.Label
		b.Last = b.Last.Only()
	case 2:
		b.Phis = append(b.Phis, phi(roll(registers)))
	case 3:
		// The blocks behind the first in another order: that changes nothing.
		slices.Reverse(q.Blocks[1:])
	case 4, 5:
		changePhi(roll, b, registers)
	default:
		changeInstr(roll, b, c, registers)
	}
	return q
}

func changePhi(roll func(int) int, b *ir.Block, registers int) {
	if len(b.Phis) == 0 {
		return
	}
	x := &b.Phis[roll(len(b.Phis))]
	if roll(4) == 0 || len(x.From) == 0 {
		x.Dst = roll(registers)
		return
	}
	switch k := roll(len(x.From)); roll(4) {
	case 0:
		x.From, x.Args = slices.Delete(x.From, k, k+1), slices.Delete(x.Args, k, k+1)
	case 1:
		x.From[k]++
	case 2:
		j := roll(len(x.From))
		x.Args[k], x.Args[j] = x.Args[j], x.Args[k]
	default:
		x.Args[k] = roll(registers)
	}
}

func changeInstr(roll func(int) int, b, c *ir.Block, registers int) {
	if len(b.Instrs) == 0 {
		return
	}
	k := roll(len(b.Instrs))
	x := b.Instrs[k]
	switch roll(5) {
	case 0:
		x.Dst = roll(registers)
		b.Instrs[k] = x.Only()
	case 1:
		b.Instrs[k] = x.Turned(func(int) int { return roll(registers) })
	case 2:
		j := roll(len(b.Instrs))
		b.Instrs[k], b.Instrs[j] = b.Instrs[j], x
	case 3:
		b.Instrs = slices.Delete(b.Instrs, k, k+1)
	default:
		b.Instrs = slices.Delete(b.Instrs, k, k+1)
		c.Instrs = slices.Insert(c.Instrs, roll(len(c.Instrs)+1), x)
	}
}

// P17.1, P4: any sure programs: what is made of them is strict; what that becomes by a change or some is what the chapter's words say.
func TestAny(t *testing.T) {
	var met tally
	for seed := range 4000 {
		roll := dice(uint64(seed) + 61)
		p := anyPlain(roll, 1+roll(9), 1+roll(6))
		q, ok := made(t, p)
		if !ok {
			continue
		}
		few := q.Regs() < 50 && len(q.Blocks) < 8
		met.holds(t, fmt.Sprintf("made, %d: %+v", seed, q), q, few)
		for i := range 12 {
			r := changed(roll, q)
			if i > 7 {
				r = changed(roll, r)
			}
			met.holds(t, fmt.Sprintf("changed, %d, %d: %+v", seed, i, r), r, few)
		}
		if t.Failed() {
			return
		}
	}
	met.most(t, 1000, api.OK, api.ErrForm, api.ErrTwice, api.ErrUnset)
	met.most(t, 100, api.ErrNone)
}

// P17.1, P4: many blocks and registers, up to as many as may be.
func TestAnyMany(t *testing.T) {
	var met tally
	for seed := range 40 {
		roll := dice(uint64(seed) + 17)
		n := 60
		if seed%8 == 0 {
			n = api.MaxBlocks - 1
		}
		p := anyPlain(roll, n, 3+roll(20))
		q, ok := made(t, p)
		if !ok {
			continue
		}
		met.holds(t, fmt.Sprint("made, ", seed), q, false)
		for i := range 40 {
			met.holds(t, fmt.Sprint("changed, ", seed, ", ", i), changed(roll, q), false)
		}
	}
	met.most(t, 20, api.OK, api.ErrForm, api.ErrTwice, api.ErrUnset)
}
