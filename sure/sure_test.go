package sure

import (
	"fmt"
	"testing"

	"refinery/api"
	"refinery/ir"
	"refinery/word"
)

// shape is a program, its sets and whether it is sure, written out.
type shape struct {
	name string
	text string
	sets [][]int
	err  api.Errno
}

func (c shape) holds(t *testing.T) {
	t.Helper()
	p := read(t, c.text)
	are(t, c.name, Set(p), c.sets)
	checks(t, c.name, p, c.err)
	if p.Regs() <= 64 {
		holds(t, c.name, p)
	}
}

// P12.1: the chapter's example: a register that is set in one of two ways alone isn't sure behind them.
func TestExample(t *testing.T) {
	shape{"the example", "@0:\n  %1 = in\n  br %1, @1, @2\n@1:\n  %2 = 5\n  jump @3\n@2:\n  jump @3\n@3:\n  ret %2\n",
		[][]int{{}, {1}, {1}, {1}}, api.ErrUnset}.holds(t)
	shape{"the example, set in both", "@0:\n  %1 = in\n  br %1, @1, @2\n@1:\n  %2 = 5\n  jump @3\n@2:\n  %2 = 6\n  jump @3\n@3:\n  ret %2\n",
		[][]int{{}, {1}, {1}, {1, 2}}, api.OK}.holds(t)
}

// P12.1: one block: nothing is set ahead of it.
func TestOneBlock(t *testing.T) {
	for _, c := range []shape{
		{"one that traps", "@0:\n  trap\n", [][]int{{}}, api.OK},
		{"one that sets and traps", "@0:\n  %1 = in\n  %2 = 3\n  trap\n", [][]int{{}}, api.OK},
		{"one that returns what it sets", "@0:\n  %1 = in\n  ret %1\n", [][]int{{}}, api.OK},
		{"one that returns what is never set", "@0:\n  ret %1\n", [][]int{{}}, api.ErrUnset},
		{"one that returns another one than it sets", "@0:\n  %1 = in\n  ret %2\n", [][]int{{}}, api.ErrUnset},
		{"register 0", "@0:\n  %0 = in\n  ret %0\n", [][]int{{}}, api.OK},
		{"register 0, never set", "@0:\n  ret %0\n", [][]int{{}}, api.ErrUnset},
		{"the greatest label and register", "@99999:\n  %99999 = in\n  ret %99999\n", [][]int{{}}, api.OK},
		{"the greatest register, never set", "@99999:\n  %99998 = in\n  ret %99999\n", [][]int{{}}, api.ErrUnset},
		{"read, then set", "@0:\n  out %1\n  %1 = in\n  ret %1\n", [][]int{{}}, api.ErrUnset},
		{"set, read, set, read", "@0:\n  %1 = in\n  out %1\n  %1 = 4\n  ret %1\n", [][]int{{}}, api.OK},
	} {
		c.holds(t)
	}
}

// P12.1: rows of blocks: what is set in those ahead is set in all behind.
func TestRows(t *testing.T) {
	for _, c := range []shape{
		{"a row", "@0:\n  %1 = in\n  jump @1\n@1:\n  %2 = 4\n  jump @2\n@2:\n  %3 = add %1, %2\n  ret %3\n", [][]int{{}, {1}, {1, 2}}, api.OK},
		{"a row the other way", "@5:\n  %1 = in\n  jump @2\n@1:\n  ret %1\n@2:\n  %2 = 3\n  jump @1\n", [][]int{{}, {1, 2}, {1}}, api.OK},
		{"set again on the way", "@0:\n  %1 = in\n  jump @1\n@1:\n  %1 = 2\n  jump @2\n@2:\n  ret %1\n", [][]int{{}, {1}, {1}}, api.OK},
		{"set behind alone", "@0:\n  jump @1\n@1:\n  out %1\n  jump @2\n@2:\n  %1 = in\n  trap\n", [][]int{{}, {}, {}}, api.ErrUnset},
		{"set in the block, behind", "@0:\n  jump @1\n@1:\n  out %1\n  %1 = in\n  jump @2\n@2:\n  ret %1\n", [][]int{{}, {}, {1}}, api.ErrUnset},
		{"never set", "@0:\n  %1 = in\n  jump @1\n@1:\n  ret %2\n", [][]int{{}, {1}}, api.ErrUnset},
		{"many registers, not rising", "@0:\n  %9 = in\n  %2 = in\n  %5 = in\n  %2 = 1\n  jump @1\n@1:\n  %7 = in\n  %1 = in\n  jump @2\n@2:\n  trap\n", [][]int{{}, {2, 5, 9}, {1, 2, 5, 7, 9}}, api.OK},
		{"the greatest register", "@0:\n  %99999 = in\n  %0 = in\n  jump @99999\n@99999:\n  out %0\n  ret %99999\n", [][]int{{}, {0, 99999}}, api.OK},
		{"slots and memory are no registers", "@0:\n  %1 = in\n  store $3, %1\n  put %1, %1\n  jump @1\n@1:\n  ret %3\n", [][]int{{}, {1}}, api.ErrUnset},
		{"all kinds that set one", "@0:\n  %1 = 4\n  %2 = %1\n  %3 = mul %1, %2\n  %4 = in\n  %5 = load $6\n  %7 = get %1\n  jump @1\n@1:\n  trap\n", [][]int{{}, {1, 2, 3, 4, 5, 7}}, api.OK},
		{"all kinds that set none", "@0:\n  %1 = 4\n  out %1\n  store $2, %1\n  put %1, %1\n  jump @1\n@1:\n  trap\n", [][]int{{}, {1}}, api.OK},
	} {
		c.holds(t)
	}
}

// P12.1: two ways that meet: a register that is set in one of them alone, in the other alone, in both, ahead of both.
func TestTwoWays(t *testing.T) {
	for _, c := range []shape{
		{"in the one alone", "@0:\n  %1 = in\n  br %1, @1, @2\n@1:\n  %2 = in\n  jump @3\n@2:\n  jump @3\n@3:\n  out %1\n  trap\n", [][]int{{}, {1}, {1}, {1}}, api.OK},
		{"in the other alone", "@0:\n  %1 = in\n  br %1, @1, @2\n@1:\n  jump @3\n@2:\n  %2 = in\n  jump @3\n@3:\n  ret %2\n", [][]int{{}, {1}, {1}, {1}}, api.ErrUnset},
		{"each of another one", "@0:\n  %1 = in\n  br %1, @1, @2\n@1:\n  %2 = in\n  jump @3\n@2:\n  %3 = in\n  jump @3\n@3:\n  ret %2\n", [][]int{{}, {1}, {1}, {1}}, api.ErrUnset},
		{"in both", "@0:\n  %1 = in\n  br %1, @1, @2\n@1:\n  %2 = in\n  %3 = 1\n  jump @3\n@2:\n  %4 = 1\n  %2 = in\n  jump @3\n@3:\n  ret %2\n", [][]int{{}, {1}, {1}, {1, 2}}, api.OK},
		{"ahead of both", "@0:\n  %1 = in\n  %2 = in\n  br %1, @1, @2\n@1:\n  jump @3\n@2:\n  jump @3\n@3:\n  ret %2\n", [][]int{{}, {1, 2}, {1, 2}, {1, 2}}, api.OK},
		{"ahead of both, and again in one", "@0:\n  %1 = in\n  %2 = in\n  br %1, @1, @2\n@1:\n  %2 = 5\n  jump @3\n@2:\n  jump @3\n@3:\n  ret %2\n", [][]int{{}, {1, 2}, {1, 2}, {1, 2}}, api.OK},
		{"where they meet", "@0:\n  %1 = in\n  br %1, @1, @2\n@1:\n  jump @3\n@2:\n  jump @3\n@3:\n  %2 = in\n  ret %2\n", [][]int{{}, {1}, {1}, {1}}, api.OK},
		{"a way past a block", "@0:\n  %1 = in\n  br %1, @1, @2\n@1:\n  %2 = in\n  jump @2\n@2:\n  ret %2\n", [][]int{{}, {1}, {1}}, api.ErrUnset},
		{"a way past a block, the labels the other way", "@0:\n  %1 = in\n  br %1, @2, @1\n@1:\n  %2 = in\n  jump @2\n@2:\n  ret %2\n", [][]int{{}, {1}, {1}}, api.ErrUnset},
		{"read in the way alone in which it is set", "@0:\n  %1 = in\n  br %1, @1, @2\n@1:\n  %2 = in\n  jump @3\n@2:\n  ret %1\n@3:\n  ret %2\n", [][]int{{}, {1}, {1}, {1, 2}}, api.OK},
		{"read in the way in which it isn't set", "@0:\n  %1 = in\n  br %1, @1, @2\n@1:\n  %2 = in\n  trap\n@2:\n  ret %2\n", [][]int{{}, {1}, {1}}, api.ErrUnset},
		{"a way that ends", "@0:\n  %1 = in\n  br %1, @1, @2\n@1:\n  %2 = in\n  jump @3\n@2:\n  trap\n@3:\n  ret %2\n", [][]int{{}, {1}, {1}, {1, 2}}, api.OK},
		{"both labels the same", "@0:\n  %1 = in\n  br %1, @1, @1\n@1:\n  ret %1\n", [][]int{{}, {1}}, api.OK},
		{"two forks, the second like the first", "@0:\n  %1 = in\n  br %1, @1, @2\n@1:\n  %2 = in\n  jump @2\n@2:\n  br %1, @3, @4\n@3:\n  out %2\n  jump @4\n@4:\n  ret %1\n",
			[][]int{{}, {1}, {1}, {1}, {1}}, api.ErrUnset},
	} {
		c.holds(t)
	}
}

// P12.1: rounds: what is set in a round is set where one comes round, and isn't where one comes in.
func TestRounds(t *testing.T) {
	for _, c := range []shape{
		{"set ahead of a round", "@0:\n  %1 = in\n  jump @1\n@1:\n  br %1, @1, @2\n@2:\n  ret %1\n", [][]int{{}, {1}, {1}}, api.OK},
		{"set in the round, read behind it", "@0:\n  %1 = in\n  jump @1\n@1:\n  %2 = in\n  br %1, @1, @2\n@2:\n  ret %2\n", [][]int{{}, {1}, {1, 2}}, api.OK},
		{"set at the round's end, read at its beginning", "@0:\n  %1 = in\n  jump @1\n@1:\n  out %2\n  jump @2\n@2:\n  %2 = in\n  br %1, @1, @3\n@3:\n  trap\n", [][]int{{}, {1}, {1}, {1, 2}}, api.ErrUnset},
		{"set in the round, at which one may go by", "@0:\n  %1 = in\n  jump @1\n@1:\n  br %1, @2, @3\n@2:\n  %2 = in\n  jump @1\n@3:\n  ret %2\n", [][]int{{}, {1}, {1}, {1}}, api.ErrUnset},
		{"set ahead of it, and again in it", "@0:\n  %1 = in\n  %2 = 0\n  jump @1\n@1:\n  %2 = add %2, %1\n  br %2, @1, @2\n@2:\n  ret %2\n", [][]int{{}, {1, 2}, {1, 2}}, api.OK},
		{"a round of three", "@0:\n  %1 = in\n  jump @1\n@1:\n  %2 = in\n  jump @2\n@2:\n  %3 = in\n  jump @3\n@3:\n  %4 = in\n  br %4, @1, @4\n@4:\n  ret %3\n",
			[][]int{{}, {1}, {1, 2}, {1, 2, 3}, {1, 2, 3, 4}}, api.OK},
		{"a round without a way out", "@0:\n  %1 = in\n  jump @1\n@1:\n  jump @2\n@2:\n  %2 = in\n  jump @1\n", [][]int{{}, {1}, {1}}, api.OK},
		{"a round, entered at two places", "@0:\n  %1 = in\n  br %1, @1, @2\n@1:\n  %2 = 4\n  jump @2\n@2:\n  %3 = 5\n  br %3, @1, @3\n@3:\n  ret %3\n",
			[][]int{{}, {1}, {1}, {1, 3}}, api.OK},
		{"rounds within each other", "@0:\n  %1 = in\n  jump @1\n@1:\n  %2 = in\n  jump @2\n@2:\n  %3 = in\n  br %3, @2, @3\n@3:\n  %4 = in\n  br %4, @1, @4\n@4:\n  ret %4\n",
			[][]int{{}, {1}, {1, 2}, {1, 2, 3}, {1, 2, 3, 4}}, api.OK},
		{"set behind the inner round, read in it", "@0:\n  %1 = in\n  jump @1\n@1:\n  jump @2\n@2:\n  out %4\n  br %1, @2, @3\n@3:\n  %4 = in\n  br %4, @1, @4\n@4:\n  trap\n",
			[][]int{{}, {1}, {1}, {1}, {1, 4}}, api.ErrUnset},
		{"set in the outer one, read in the inner one", "@0:\n  %1 = in\n  jump @1\n@1:\n  %2 = in\n  jump @2\n@2:\n  out %2\n  br %1, @2, @3\n@3:\n  br %2, @1, @4\n@4:\n  ret %2\n",
			[][]int{{}, {1}, {1, 2}, {1, 2}, {1, 2}}, api.OK},
		{"a block that goes on at itself", "@0:\n  %1 = in\n  jump @1\n@1:\n  %2 = in\n  jump @1\n", [][]int{{}, {1}}, api.OK},
	} {
		c.holds(t)
	}
}

// P12.1: at the first block's beginning nothing is set, also when one comes back to it.
func TestBackToFirst(t *testing.T) {
	for _, c := range []shape{
		{"it goes on at itself", "@0:\n  %1 = in\n  br %1, @0, @0\n", [][]int{{}}, api.OK},
		{"it goes on at itself, and reads ahead of setting", "@0:\n  out %1\n  %1 = in\n  jump @0\n", [][]int{{}}, api.ErrUnset},
		{"one comes back to it", "@0:\n  %1 = in\n  jump @1\n@1:\n  %2 = in\n  br %2, @0, @2\n@2:\n  ret %1\n", [][]int{{}, {1}, {1, 2}}, api.OK},
		{"one comes back, and it reads what is set on the way", "@0:\n  out %2\n  %1 = in\n  jump @1\n@1:\n  %2 = in\n  br %2, @0, @2\n@2:\n  ret %1\n", [][]int{{}, {1}, {1, 2}}, api.ErrUnset},
		{"all come back to it", "@7:\n  %1 = in\n  br %1, @8, @9\n@8:\n  %2 = 1\n  jump @7\n@9:\n  %2 = 2\n  jump @7\n", [][]int{{}, {1}, {1}}, api.OK},
		{"it sets nothing", "@0:\n  jump @1\n@1:\n  %1 = in\n  br %1, @0, @2\n@2:\n  ret %1\n", [][]int{{}, {}, {1}}, api.OK},
	} {
		c.holds(t)
	}
}

// P12.1: blocks that aren't reached have no set, may read what is never set, and count for no block at which they go on.
func TestUnreached(t *testing.T) {
	for _, c := range []shape{
		{"one alone", "@0:\n  %1 = in\n  ret %1\n@1:\n  ret %9\n", [][]int{{}, {}}, api.OK},
		{"one that reads by each instruction", "@0:\n  trap\n@1:\n  %1 = %2\n  %3 = add %4, %5\n  out %6\n  store $7, %8\n  %9 = get %10\n  put %11, %12\n  br %13, @0, @1\n", [][]int{{}, {}}, api.OK},
		{"one that sets", "@0:\n  trap\n@1:\n  %1 = in\n  ret %1\n", [][]int{{}, {}}, api.OK},
		{"a row of their own", "@0:\n  trap\n@1:\n  %1 = in\n  jump @2\n@2:\n  %2 = in\n  jump @3\n@3:\n  ret %9\n", [][]int{{}, {}, {}, {}}, api.OK},
		{"a round of their own", "@0:\n  trap\n@1:\n  %1 = in\n  jump @2\n@2:\n  %2 = in\n  br %3, @1, @2\n", [][]int{{}, {}, {}}, api.OK},
		{"ahead of one that is reached, set on the other way", "@0:\n  %1 = in\n  jump @2\n@1:\n  jump @2\n@2:\n  ret %1\n", [][]int{{}, {}, {1}}, api.OK},
		{"ahead of one that is reached, and sets what isn't on the other way", "@0:\n  %1 = in\n  jump @2\n@1:\n  %2 = in\n  jump @2\n@2:\n  ret %2\n", [][]int{{}, {}, {1}}, api.ErrUnset},
		{"ahead of the first", "@0:\n  ret %1\n@1:\n  %1 = in\n  jump @0\n", [][]int{{}, {}}, api.ErrUnset},
		{"behind a round that isn't left", "@0:\n  jump @0\n@1:\n  ret %1\n", [][]int{{}, {}}, api.OK},
		{"a way out of a round that isn't reached", "@0:\n  %1 = in\n  jump @3\n@1:\n  jump @2\n@2:\n  br %5, @1, @3\n@3:\n  ret %1\n", [][]int{{}, {}, {}, {1}}, api.OK},
	} {
		c.holds(t)
	}
}

// reader is an instruction or an end that reads register 5 (and 6, which is set in the first block).
type reader struct {
	name string
	x    ir.Instr
	last ir.Last
	own  bool // it sets 5, too
}

func readers() []reader {
	trap := ir.Last{End: ir.Trap}
	return []reader{
		{"copy", ir.Instr{Kind: ir.Copy, Dst: 7, A: 5}, trap, false},
		{"copy to itself", ir.Instr{Kind: ir.Copy, Dst: 5, A: 5}, trap, true},
		{"do, its first", ir.Instr{Kind: ir.Do, Op: word.Add, Dst: 7, A: 5, B: 6}, trap, false},
		{"do, its second", ir.Instr{Kind: ir.Do, Op: word.Div, Dst: 7, A: 6, B: 5}, trap, false},
		{"do, both", ir.Instr{Kind: ir.Do, Dst: 7, A: 5, B: 5}, trap, false},
		{"do, sets its first", ir.Instr{Kind: ir.Do, Dst: 5, A: 5, B: 6}, trap, true},
		{"do, sets its second", ir.Instr{Kind: ir.Do, Dst: 5, A: 6, B: 5}, trap, true},
		{"do, sets both", ir.Instr{Kind: ir.Do, Dst: 5, A: 5, B: 5}, trap, true},
		{"out", ir.Instr{Kind: ir.Out, A: 5}, trap, false},
		{"store", ir.Instr{Kind: ir.Store, A: 5, Slot: 6}, trap, false},
		{"get", ir.Instr{Kind: ir.Get, Dst: 7, A: 5}, trap, false},
		{"get, sets what it reads", ir.Instr{Kind: ir.Get, Dst: 5, A: 5}, trap, true},
		{"put, its first", ir.Instr{Kind: ir.Put, A: 5, B: 6}, trap, false},
		{"put, its second", ir.Instr{Kind: ir.Put, A: 6, B: 5}, trap, false},
		{"put, both", ir.Instr{Kind: ir.Put, A: 5, B: 5}, trap, false},
		{"br", ir.Instr{Kind: ir.Const, Dst: 7}, ir.Last{End: ir.Branch, A: 5, Yes: 4, No: 3}, false},
		{"ret", ir.Instr{Kind: ir.Const, Dst: 7}, ir.Last{End: ir.Return, A: 5}, false},
	}
}

// fork: the first block sets 6 and goes on at two ways; both meet at block 3, which reads 5 by that; block 4 is behind it, block 5 isn't reached.
func fork(c reader) ir.Program {
	trap, jump := ir.Last{End: ir.Trap}, ir.Last{End: ir.Jump, Yes: 3}
	p := ir.Program{Blocks: []ir.Block{
		{Label: 0, Instrs: []ir.Instr{{Kind: ir.In, Dst: 6}}, Last: ir.Last{End: ir.Branch, A: 6, Yes: 1, No: 2}},
		{Label: 1, Last: jump},
		{Label: 2, Last: jump},
		{Label: 3, Instrs: []ir.Instr{c.x}, Last: c.last},
		{Label: 4, Last: trap},
		{Label: 5, Last: jump},
	}}
	if c.last.End == ir.Trap {
		p.Blocks[3].Last = ir.Last{End: ir.Branch, A: 6, Yes: 4, No: 3}
	}
	return p
}

func set(p ir.Program, place int) { p.Blocks[place].Instrs = append(p.Blocks[place].Instrs, five()) }

func five() ir.Instr { return ir.Instr{Kind: ir.In, Dst: 5} }

// P12.1: Check of each kind of instruction and each end that reads a register: where it is set.
func TestReaders(t *testing.T) {
	for _, c := range readers() {
		for _, d := range []struct {
			name string
			set  func(p ir.Program)
			err  api.Errno
		}{
			{"nowhere", func(ir.Program) {}, api.ErrUnset},
			{"ahead of both ways", func(p ir.Program) { set(p, 0) }, api.OK},
			{"on each way", func(p ir.Program) { set(p, 1); set(p, 2) }, api.OK},
			{"on the one way alone", func(p ir.Program) { set(p, 1) }, api.ErrUnset},
			{"on the other way alone", func(p ir.Program) { set(p, 2) }, api.ErrUnset},
			{"ahead in the block", func(p ir.Program) { p.Blocks[3].Instrs = []ir.Instr{five(), c.x} }, api.OK},
			{"two ahead in the block", func(p ir.Program) { p.Blocks[3].Instrs = []ir.Instr{five(), {Dst: 8}, c.x} }, api.OK},
			{"in the block behind", func(p ir.Program) { set(p, 4) }, api.ErrUnset},
			{"in a block that isn't reached", func(p ir.Program) { set(p, 5) }, api.ErrUnset},
		} {
			p := fork(c)
			d.set(p)
			may(t, p)
			checks(t, c.name+", set "+d.name, p, d.err)
			holds(t, c.name+", set "+d.name, p)
		}
		if c.last.End == ir.Trap {
			p := fork(c)
			set(p, 3)
			checks(t, c.name+", set behind alone, in the block", p, api.ErrUnset)
			holds(t, c.name+", set behind alone, in the block", p)
		}
		p := fork(c)
		p.Blocks[0] = ir.Block{Last: ir.Last{End: ir.Trap}}
		checks(t, c.name+", in a block that isn't reached", p, api.OK)
		// An instruction that sets what it reads doesn't set it ahead of reading it, but does for what is behind.
		if c.own {
			q := fork(reader{"", c.x, ir.Last{End: ir.Return, A: 5}, true})
			checks(t, c.name+", then ret", q, api.ErrUnset)
			set(q, 0)
			checks(t, c.name+", then ret, set", q, api.OK)
		}
	}
}

// P12.1: what doesn't read a register asks for none.
func TestNoReaders(t *testing.T) {
	p := read(t, "@0:\n  %1 = 5\n  %2 = in\n  %3 = load $4\n  jump @1\n@1:\n  trap\n")
	checks(t, "const, in, load, jump, trap", p, api.OK)
	are(t, "const, in, load, jump, trap", Set(p), [][]int{{}, {1, 2, 3}})
}

// P12.1: one read among many, in whichever block, at whichever place, that isn't set.
func TestEachPlace(t *testing.T) {
	text := "@0:\n  %0 = in\n  %1 = in\n  %2 = in\n  %3 = in\n  jump @1\n@1:\n  out %0\n  %4 = add %1, %2\n  store $0, %3\n  br %4, @2, @3\n@2:\n  put %0, %1\n  %5 = get %2\n  out %5\n  jump @1\n@3:\n  %6 = %3\n  out %6\n  ret %4\n"
	p := read(t, text)
	holds(t, "no register unset", p)
	checks(t, "no register unset", p, api.OK)
	for i, b := range p.Blocks {
		for k := range b.Instrs {
			for side := range 2 {
				q := p.Clone()
				x := &q.Blocks[i].Instrs[k]
				reads := len(readsOf(*x))
				if side >= reads {
					continue
				}
				if side == 0 {
					x.A = 9
				} else {
					x.B = 9
				}
				checks(t, fmt.Sprint("9 is read in ", i, ", ", k), q, api.ErrUnset)
			}
		}
		if len(endReads(b.Last)) > 0 {
			q := p.Clone()
			q.Blocks[i].Last.A = 9
			checks(t, fmt.Sprint("9 is read by the end of ", i), q, api.ErrUnset)
		}
	}
	for r := range 4 {
		q := p.Clone()
		q.Blocks[0].Instrs[r].Dst = 8
		checks(t, fmt.Sprint(r, " isn't set"), q, api.ErrUnset)
		holds(t, fmt.Sprint(r, " isn't set"), q)
	}
}
