package strict

import (
	"fmt"
	"slices"
	"testing"

	"refinery/api"
	"refinery/ir"
	"refinery/word"
)

func jump(to int) ir.Last           { return ir.Last{End: ir.Jump, Yes: to} }
func branch(a, yes, no int) ir.Last { return ir.Last{End: ir.Branch, A: a, Yes: yes, No: no} }
func ret(a int) ir.Last             { return ir.Last{End: ir.Return, A: a} }
func trap() ir.Last                 { return ir.Last{End: ir.Trap} }

func number(dst int, n int64) ir.Instr { return ir.Instr{Kind: ir.Const, Dst: dst, N: n} }
func copied(dst, a int) ir.Instr       { return ir.Instr{Kind: ir.Copy, Dst: dst, A: a} }
func add(dst, a, b int) ir.Instr       { return ir.Instr{Kind: ir.Do, Dst: dst, A: a, B: b} }
func input(dst int) ir.Instr           { return ir.Instr{Kind: ir.In, Dst: dst} }
func output(a int) ir.Instr            { return ir.Instr{Kind: ir.Out, A: a} }

func block(label int, l ir.Last, instrs ...ir.Instr) ir.Block {
	return ir.Block{Label: label, Instrs: instrs, Last: l}
}

func program(l ...ir.Block) ir.Program { return ir.Program{Blocks: l} }

// phi: of entries, each a label and a register.
func phi(dst int, entries ...[2]int) ir.Phi {
	x := ir.Phi{Dst: dst}
	for _, e := range entries {
		x.From, x.Args = append(x.From, e[0]), append(x.Args, e[1])
	}
	return x
}

func with(b ir.Block, l ...ir.Phi) ir.Block {
	b.Phis = append(b.Phis, l...)
	return b
}

// sample: two ways that meet, and a round behind them; registers 0 to 8 are set, 0 ahead of all else. Its labels don't rise as its places do.
func sample() ir.Program {
	return program(
		with(block(7, branch(0, 9, 2), output(0)), phi(0)),
		block(9, jump(4), number(1, 5)),
		block(2, jump(4), copied(2, 0)),
		with(block(4, branch(4, 11, 3), add(4, 3, 0)), phi(3, [2]int{2, 2}, [2]int{9, 1})),
		with(block(11, branch(6, 11, 3), output(5), add(6, 5, 0)), phi(5, [2]int{4, 3}, [2]int{11, 6})),
		with(block(3, ret(8), copied(8, 7)), phi(7, [2]int{4, 4}, [2]int{11, 6})))
}

// regs: one above the registers of sample.
const regs = 9

// ahead: of sample's blocks the labels of those ahead.
func ahead() [][]int { return [][]int{{}, {7}, {7}, {2, 9}, {4, 11}, {4, 11}} }

// over: of sample's blocks, by their places, those that they are over.
func over() [][]int { return [][]int{{0, 1, 2, 3, 4, 5}, {1}, {2}, {3, 4, 5}, {4}, {5}} }

// checks: what Check says of a program, and the chapter's words do, too; it is as it was, and Check says it again.
func checks(t *testing.T, what any, p ir.Program, want api.Errno) {
	t.Helper()
	before := p.Clone()
	err, again := Check(p), Check(p)
	if err != want {
		t.Errorf("P17.1: %+v: error %d, not %d", what, err, want)
	}
	if plain := plain(p); plain != want {
		t.Errorf("P17.1: %+v: by the chapter's words error %d, not %d", what, plain, want)
	}
	if again != err {
		t.Errorf("R8: %+v: error %d, then %d", what, err, again)
	}
	if !ir.Same(p, before) {
		t.Errorf("R6: %+v: it was changed", what)
	}
}

// P17.1: the chapter's example: a phi in the first block, without entries, may be.
func TestExample(t *testing.T) {
	checks(t, "a phi in the first block", program(with(block(0, trap()), phi(1))), api.OK)
	checks(t, "it is read", program(with(block(0, ret(1), output(1)), phi(1))), api.OK)
	checks(t, "two of them", program(with(block(5, jump(3)), phi(1), phi(0)), block(3, ret(0), output(1))), api.OK)
	checks(t, "R5: an empty list of entries", program(with(block(0, ret(1)), ir.Phi{Dst: 1, From: []int{}, Args: []int{}})), api.OK)
	checks(t, "an entry of its own block", program(with(block(0, ret(1)), phi(1, [2]int{0, 1}))), api.ErrForm)
	checks(t, "an entry of the block behind", program(with(block(0, jump(1)), phi(1, [2]int{1, 1})), block(1, ret(1))), api.ErrForm)
	checks(t, "set twice", program(with(block(0, trap()), phi(1), phi(1))), api.ErrTwice)
}

// P17.1: programs that are strict.
func TestStrict(t *testing.T) {
	checks(t, "the sample", sample(), api.OK)
	for name, p := range map[string]ir.Program{
		"an end alone":                 program(block(0, trap())),
		"at the limits":                program(block(99999, ret(99999), input(99999))),
		"R5: empty lists":              program(ir.Block{Phis: []ir.Phi{}, Instrs: []ir.Instr{}, Last: trap()}),
		"a row":                        program(block(3, jump(1), input(5)), block(1, jump(2), add(4, 5, 5)), block(2, ret(4), output(5))),
		"a row, the other way round":   program(block(0, jump(3), input(1)), block(1, ret(3), output(2)), block(2, jump(1), copied(3, 2)), block(3, jump(2), copied(2, 1))),
		"both labels are one":          program(block(0, branch(1, 4, 4), input(1)), with(block(4, ret(2)), phi(2, [2]int{0, 1}))),
		"what is set isn't read":       program(block(0, jump(1), input(1)), with(block(1, trap(), input(3)), phi(2, [2]int{0, 1}))),
		"read in one of two ways":      program(block(0, branch(0, 1, 2), input(0)), block(1, ret(1), input(1)), block(2, ret(2), input(2))),
		"a round that reads itself":    program(block(0, jump(1), input(0)), with(block(1, jump(1)), phi(1, [2]int{0, 0}, [2]int{1, 1}))),
		"two that change places":       program(block(0, jump(1), input(0)), with(block(1, jump(1), output(1)), phi(1, [2]int{0, 0}, [2]int{1, 2}), phi(2, [2]int{0, 0}, [2]int{1, 1}))),
		"a round in which it is set":   program(block(0, jump(1), input(0)), with(block(1, jump(1), add(2, 1, 0)), phi(1, [2]int{0, 0}, [2]int{1, 2}))),
		"without phis, where two meet": program(block(0, branch(0, 1, 2), input(0)), block(1, jump(2), output(0)), block(2, ret(0), input(1))),
	} {
		checks(t, name, p, api.OK)
	}
}

// P17.1: ErrForm, if a block isn't reached.
func TestUnreached(t *testing.T) {
	for name, more := range map[string][]ir.Block{
		"an end alone":                 {block(20, trap())},
		"a row":                        {block(20, jump(21)), block(21, trap())},
		"a round":                      {block(20, jump(21)), block(21, jump(20))},
		"it goes on at itself":         {block(20, jump(20))},
		"it goes on at one that is":    {block(20, jump(9))},
		"it goes on at one with a phi": {block(20, jump(4))},
		"it goes on at the first":      {block(20, jump(7))},
	} {
		for at := range 6 {
			p := sample()
			p.Blocks = slices.Insert(p.Blocks, 1+at, more...)
			checks(t, fmt.Sprint(name, ", at ", 1+at), p, api.ErrForm)
		}
	}
	checks(t, "the second of two", program(block(0, trap()), block(1, trap())), api.ErrForm)
	checks(t, "the second is ahead of the first alone", program(block(0, trap()), block(1, jump(0))), api.ErrForm)
}

// P17.1: ErrForm, if a block goes on at the first.
func TestBackToFirst(t *testing.T) {
	for _, l := range []ir.Last{jump(0), branch(1, 0, 0), branch(1, 0, 1), branch(1, 1, 0)} {
		checks(t, fmt.Sprintf("itself, by %+v", l), program(block(0, l, input(1)), block(1, trap())), api.ErrForm)
		checks(t, fmt.Sprintf("itself, by %+v, the other one, too", l), program(block(0, l, input(1)), block(1, jump(0))), api.ErrForm)
		checks(t, fmt.Sprintf("the second, by %+v", l), program(block(0, jump(1), input(1)), block(1, l)), api.ErrForm)
		checks(t, fmt.Sprintf("the third, by %+v", l), program(block(0, branch(1, 1, 2), input(1)), block(1, trap()), block(2, l)), api.ErrForm)
	}
	checks(t, "alone", program(block(5, jump(5))), api.ErrForm)
	checks(t, "a zero block", program(ir.Block{}), api.ErrForm)
	checks(t, "it has a phi of all that is ahead", program(with(block(0, jump(0)), phi(1, [2]int{0, 1}))), api.ErrForm)
	checks(t, "another one whose label is 0", program(block(5, jump(0)), block(0, jump(0))), api.OK)
}

// setting: of each kind one that sets a register, and reads 0 alone.
func setting(dst int) []ir.Instr {
	return []ir.Instr{number(dst, 3), copied(dst, 0), add(dst, 0, 0), {Kind: ir.Do, Op: word.Div, Dst: dst}, input(dst), {Kind: ir.Load, Dst: dst, Slot: 2}, {Kind: ir.Get, Dst: dst}}
}

// likeAhead: a phi of a block of sample, that has 0 from each way.
func likeAhead(dst, place int) ir.Phi {
	x := phi(dst)
	for _, label := range ahead()[place] {
		x.From, x.Args = append(x.From, label), append(x.Args, 0)
	}
	return x
}

// P17.1: ErrTwice, if a register is set at two places, wherever, by whatever.
func TestTwice(t *testing.T) {
	for r := range regs + 1 {
		want := api.ErrTwice
		if r == regs {
			want = api.OK
		}
		for place := range 6 {
			for _, x := range setting(r) {
				p := sample()
				p.Blocks[place].Instrs = append(p.Blocks[place].Instrs, x)
				checks(t, fmt.Sprintf("%+v in %d", x, place), p, want)
			}
			p := sample()
			p.Blocks[place] = with(p.Blocks[place], likeAhead(r, place))
			checks(t, fmt.Sprintf("a phi of %d in %d", r, place), p, want)
			if r == regs {
				p.Blocks[place].Instrs = append(p.Blocks[place].Instrs, input(r))
				checks(t, fmt.Sprint("by a phi and an instruction of ", place), p, api.ErrTwice)
				p = sample()
				p.Blocks[place] = with(p.Blocks[place], likeAhead(r, place), likeAhead(r, place))
				checks(t, fmt.Sprint("by two phis of ", place), p, api.ErrTwice)
			}
		}
	}
	for _, x := range []ir.Instr{input(5), copied(5, 0)} {
		checks(t, "at two places, one behind the other", program(block(0, ret(5), input(0), x, x)), api.ErrTwice)
		checks(t, "in each of two ways", program(block(0, branch(0, 1, 2), input(0)), block(1, ret(5), x), block(2, ret(5), x)), api.ErrTwice)
	}
	checks(t, "by a copy of itself", program(block(0, ret(0), input(0), copied(0, 0))), api.ErrTwice)
	checks(t, "the greatest register", program(block(0, ret(99999), input(99999), input(99999))), api.ErrTwice)
}

// P17.1: what doesn't set a register doesn't count, though its Dst is 0.
func TestSetsNone(t *testing.T) {
	p := sample()
	for place := range p.Blocks {
		for _, x := range []ir.Instr{output(0), {Kind: ir.Store}, {Kind: ir.Put}} {
			p.Blocks[place].Instrs = append(p.Blocks[place].Instrs, x, x)
		}
	}
	checks(t, "out, store, put", p, api.OK)
}

// P17.1: ErrForm, if a phi's labels aren't those of the blocks ahead: all labels that may be, of each block.
func TestPhiLabels(t *testing.T) {
	labels := []int{2, 3, 4, 7, 9, 11}
	for place, want := range ahead() {
		for some := range 1 << len(labels) {
			x := phi(regs)
			for i, label := range labels {
				if some>>i&1 == 1 {
					x.From, x.Args = append(x.From, label), append(x.Args, 0)
				}
			}
			err := api.ErrForm
			if slices.Equal(x.From, want) {
				err = api.OK
			}
			for at := range 2 {
				p := sample()
				p.Blocks[place].Phis = slices.Insert(p.Blocks[place].Phis, at*len(p.Blocks[place].Phis), x)
				checks(t, fmt.Sprintf("%+v in %d", x, place), p, err)
			}
		}
	}
}

// R2: what is wrong in all of the program is looked for in the order of the promise, wherever it stands.
func TestOrder(t *testing.T) {
	type change struct {
		name string
		make func(p *ir.Program)
		err  api.Errno
	}
	in := func(place int, x ir.Instr) func(*ir.Program) {
		return func(p *ir.Program) { p.Blocks[place].Instrs = append(p.Blocks[place].Instrs, x) }
	}
	rows := [][]change{
		{
			{"a kind, in the first", in(0, ir.Instr{Kind: ir.Kinds}), api.ErrKind},
			{"an op, in the last", in(5, ir.Instr{Kind: ir.Do, Op: word.Ops}), api.ErrKind},
			{"a form, in the first", in(0, ir.Instr{Kind: ir.Out, Dst: 1}), api.ErrForm},
			{"a register, in the last", in(5, output(-1)), api.ErrRange},
			{"a slot, in the last", in(5, ir.Instr{Kind: ir.Load, Slot: api.Slots}), api.ErrRange},
			{"an end", func(p *ir.Program) { p.Blocks[4].Last.End = ir.Ends }, api.ErrKind},
			{"an end's form", func(p *ir.Program) { p.Blocks[1].Last.No = 4 }, api.ErrForm},
			{"an end's register", func(p *ir.Program) { p.Blocks[4].Last.A = api.MaxReg }, api.ErrRange},
			{"an end's label", func(p *ir.Program) { p.Blocks[4].Last.No = 5 }, api.ErrNone},
			{"a label", func(p *ir.Program) { p.Blocks[3].Label = -1 }, api.ErrRange},
			{"a label too great", func(p *ir.Program) { p.Blocks[0].Label = api.MaxLabel }, api.ErrRange},
			{"a label twice", func(p *ir.Program) { p.Blocks[5].Label = 7 }, api.ErrTwice},
			{"many", func(p *ir.Program) { p.Blocks = append(p.Blocks, make([]ir.Block, 400)...) }, api.ErrMany},
			{"size", func(p *ir.Program) { p.Blocks[1].Instrs = make([]ir.Instr, 4000) }, api.ErrSize},
			{"a phi's register", func(p *ir.Program) { p.Blocks[3].Phis[0].Dst = api.MaxReg }, api.ErrRange},
			{"a phi's lists", func(p *ir.Program) { p.Blocks[3].Phis[0].From = []int{2} }, api.ErrForm},
			{"a phi without registers", func(p *ir.Program) { p.Blocks[3].Phis[0].Args = nil }, api.ErrForm},
			{"a phi's labels, falling", func(p *ir.Program) { p.Blocks[3].Phis[0].From = []int{9, 2} }, api.ErrTwice},
			{"a phi's label twice", func(p *ir.Program) { p.Blocks[3].Phis[0].From = []int{2, 2} }, api.ErrTwice},
			{"a phi's label that no block has", func(p *ir.Program) { p.Blocks[3].Phis[0].From = []int{2, 10} }, api.ErrNone},
			{"a phi's entry's register", func(p *ir.Program) { p.Blocks[3].Phis[0].Args[0] = -1 }, api.ErrRange},
		},
		{
			{"one isn't reached", func(p *ir.Program) { p.Blocks = append(p.Blocks, block(30, trap())) }, api.ErrForm},
			{"the last goes on at the first", func(p *ir.Program) { p.Blocks[5].Last = branch(0, 7, 7) }, api.ErrForm},
		},
		{
			{"0 is set in the last", in(5, input(0)), api.ErrTwice},
			{"1 is set in the first", in(0, input(1)), api.ErrTwice},
			{"a phi sets 8", func(p *ir.Program) { p.Blocks[2] = with(p.Blocks[2], likeAhead(8, 2)) }, api.ErrTwice},
		},
		{
			{"a phi of the first has an entry", func(p *ir.Program) { p.Blocks[0] = with(p.Blocks[0], phi(20, [2]int{7, 0})) }, api.ErrForm},
			{"a phi of the last has none", func(p *ir.Program) { p.Blocks[5] = with(p.Blocks[5], phi(21)) }, api.ErrForm},
		},
		{
			{"50 is put out in the first", in(0, output(50)), api.ErrUnset},
			{"50 is put out in the last", in(5, output(50)), api.ErrUnset},
			{"a phi has 50", func(p *ir.Program) { p.Blocks[3].Phis[0].Args = []int{2, 50} }, api.ErrUnset},
			{"1 is read in the last", in(5, output(1)), api.ErrUnset},
		},
	}
	for i, row := range rows {
		for _, first := range row {
			p := sample()
			first.make(&p)
			checks(t, first.name, p, first.err)
			for _, later := range rows[i+1:] {
				for _, second := range later {
					for _, l := range [][]change{{first, second}, {second, first}} {
						p := sample()
						l[0].make(&p)
						l[1].make(&p)
						// Of two such one may take away what the other one did.
						if i > 0 || p.Check() == first.err {
							checks(t, first.name+", and "+second.name, p, first.err)
						}
					}
				}
			}
		}
	}
}
