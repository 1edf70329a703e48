package graph

import (
	"math"
	"slices"
	"testing"

	"refinery/api"
	"refinery/ir"
	"refinery/word"
)

func jump(to int) ir.Last        { return ir.Last{End: ir.Jump, Yes: to} }
func branch(yes, no int) ir.Last { return ir.Last{End: ir.Branch, A: 1, Yes: yes, No: no} }
func ret() ir.Last               { return ir.Last{End: ir.Return, A: 1} }
func trap() ir.Last              { return ir.Last{End: ir.Trap} }

// program: blocks of these labels, with these ends.
func program(labels []int, lasts ...ir.Last) ir.Program {
	var p ir.Program
	for i, l := range lasts {
		p.Blocks = append(p.Blocks, ir.Block{Label: labels[i], Last: l})
	}
	return p
}

// may: a program that may be.
func may(t *testing.T, labels []int, lasts ...ir.Last) ir.Program {
	t.Helper()
	p := program(labels, lasts...)
	if err := p.Check(); err != api.OK {
		t.Fatalf("error %d: %v", err, p)
	}
	return p
}

// P7.1: of each kind of end, with labels that neither begin at 0 nor rise.
func TestOf(t *testing.T) {
	p := may(t, []int{70, 3, 99999, 0, 12, 5}, branch(12, 3), jump(12), branch(99999, 70), ret(), branch(0, 0), trap())
	g := Of(p)
	same(t, "P7.1: Of", g, joined(6, [2]int{0, 4}, [2]int{0, 1}, [2]int{1, 4}, [2]int{2, 2}, [2]int{2, 0}, [2]int{4, 3}))
	is(t, "P7.1: Behind(0)", g.Behind(0), []int{4, 1})
	is(t, "P7.1: Behind(2)", g.Behind(2), []int{2, 0})
	is(t, "P7.1: Ahead(4)", g.Ahead(4), []int{0, 1})
	is(t, "P7.1: Behind(4), both labels the same", g.Behind(4), []int{3})
	is(t, "P7.1: Behind(3), that returns", g.Behind(3), nil)
	is(t, "P7.1: Behind(5), that traps", g.Behind(5), nil)
	is(t, "P7.2: First", slices.Collect(g.First()), []int{0, 4, 3, 1})
	is(t, "P7.2: Order", g.Order(), []int{0, 1, 4, 3})
	is(t, "P7.2: Reached", g.Reached(), []bool{true, true, false, true, true, false})
	// Yes comes ahead of No, whichever stands first.
	p.Blocks[0].Last = branch(3, 12)
	is(t, "P7.1: Behind(0), turned", Of(p).Behind(0), []int{1, 4})
}

// P7.1: of no block and of one.
func TestOfFew(t *testing.T) {
	same(t, "P7.1: no block", Of(ir.Program{}), New(0))
	same(t, "P7.1: no block", Of(ir.Program{Blocks: []ir.Block{}}), New(0))
	same(t, "P7.1: trap", Of(may(t, []int{9}, trap())), New(1))
	same(t, "P7.1: return", Of(may(t, []int{9}, ret())), New(1))
	same(t, "P7.1: jump", Of(may(t, []int{9}, jump(9))), joined(1, [2]int{0, 0}))
	same(t, "P7.1: branch", Of(may(t, []int{9}, branch(9, 9))), joined(1, [2]int{0, 0}))
	same(t, "P7.1: the zero block", Of(ir.Program{Blocks: make([]ir.Block, 1)}), joined(1, [2]int{0, 0}))
}

// P7.1: of as many blocks as may be.
func TestOfMany(t *testing.T) {
	throw := dice(3)
	for _, n := range []int{2, 3, 50, 399, 400} {
		var labels []int
		for i := range n {
			labels = append(labels, 99999-(i*11%n)*(99999/n))
		}
		lasts := make([]ir.Last, n)
		want := New(n)
		for i := range n {
			yes, no := throw(n), throw(n)
			switch throw(5) {
			case 0:
				lasts[i] = jump(labels[yes])
				want.Join(i, yes)
			case 1:
				lasts[i] = ret()
			case 2:
				lasts[i] = trap()
			default:
				lasts[i] = branch(labels[yes], labels[no])
				want.Join(i, yes)
				want.Join(i, no)
			}
		}
		same(t, n, Of(may(t, labels, lasts...)), want)
	}
}

// P7.1: what an end doesn't have leads nowhere, nor do phis and instructions.
func TestOfEndsAlone(t *testing.T) {
	p := program([]int{0, 1, 2, 3}, ir.Last{End: ir.Jump, Yes: 1, No: 2}, ir.Last{End: ir.Return, Yes: 2, No: 3},
		ir.Last{End: ir.Trap, Yes: 3, No: 1}, ir.Last{End: ir.Ends, Yes: 1, No: 2})
	p.Blocks[3].Phis = []ir.Phi{{Dst: 1, From: []int{0, 1}, Args: []int{2, 3}}}
	p.Blocks[0].Instrs = []ir.Instr{{Kind: ir.Do, Op: word.Add, Dst: 1, A: 2, B: 3}}
	same(t, "P7.1: what an end has", Of(p), joined(4, [2]int{0, 1}))
}

// P1: labels that no block has lead nowhere.
func TestOfNoLabel(t *testing.T) {
	for _, label := range []int{math.MinInt, -1, 1, 2, 6, 99999, 100000, math.MaxInt} {
		for _, l := range []ir.Last{jump(label), branch(label, label)} {
			same(t, label, Of(program([]int{5, 0}, l, jump(5))), joined(2, [2]int{1, 0}))
		}
		same(t, label, Of(program([]int{5, 0}, branch(label, 0), trap())), joined(2, [2]int{0, 1}))
		same(t, label, Of(program([]int{5, 0}, branch(5, label), trap())), joined(2, [2]int{0, 0}))
	}
}

// P1: of one label at two blocks the first has it.
func TestOfLabelTwice(t *testing.T) {
	p := program([]int{4, 7, 7, 4, 7}, jump(7), branch(4, 7), jump(4), jump(7), branch(7, 4))
	same(t, "twice", Of(p), joined(5, [2]int{0, 1}, [2]int{1, 0}, [2]int{1, 1}, [2]int{2, 0}, [2]int{3, 1}, [2]int{4, 1}, [2]int{4, 0}))
}

// P1: of programs that may not be: more blocks than may be, labels out of range, ends of no kind, phis and instructions of no form.
func TestOfWrong(t *testing.T) {
	const n = 50000
	var p ir.Program
	want := New(n)
	for i := range n {
		p.Blocks = append(p.Blocks, ir.Block{Label: i - n/2, Last: jump(i + 1 - n/2)})
		want.Join(i, i+1)
	}
	same(t, "many", Of(p), want)
	want = New(500)
	for i := range 500 {
		want.Join(i, 0)
	}
	same(t, "zero blocks", Of(ir.Program{Blocks: make([]ir.Block, 500)}), want)
	for end := range 256 {
		p := program([]int{math.MinInt, math.MaxInt}, ir.Last{End: ir.End(end), A: -1, Yes: math.MaxInt, No: math.MinInt}, trap())
		p.Blocks[1].Phis = []ir.Phi{{Dst: -1, From: []int{3}}, {Args: []int{-1}}}
		p.Blocks[1].Instrs = []ir.Instr{{Kind: ir.Kinds, Op: word.Ops, Dst: math.MinInt, Slot: -1}}
		want := New(2)
		switch ir.End(end) {
		case ir.Jump:
			want.Join(0, 1)
		case ir.Branch:
			want.Join(0, 1)
			want.Join(0, 0)
		}
		same(t, end, Of(p), want)
	}
}

// R6: the program is as it was, its spare room too, and isn't kept.
func TestOfKeepsNothing(t *testing.T) {
	p := may(t, []int{1, 2, 3, 4}, branch(2, 3), jump(4), jump(4), ret())
	p.Blocks[3].Phis = []ir.Phi{{Dst: 1, From: []int{2, 3}, Args: []int{5, 6}}}
	before := p.Clone()
	short := ir.Program{Blocks: p.Blocks[:2]}
	g, h := Of(p), Of(short)
	want := joined(4, [2]int{0, 1}, [2]int{0, 2}, [2]int{1, 3}, [2]int{2, 3})
	same(t, "R6: Of", g, want)
	same(t, "R6: Of some", h, joined(2, [2]int{0, 1}))
	h.Join(1, 1)
	g.Join(3, 0)
	want.Join(3, 0)
	if !ir.Same(p, before) || !ir.Same(short, ir.Program{Blocks: before.Blocks[:2]}) {
		t.Errorf("R6: the program was changed: %v", p)
	}
	p.Blocks[0].Last = trap()
	p.Blocks[1].Label = 9
	same(t, "R6: the program was changed behind Of", g, want)
	same(t, "R6: a graph of its own each", Of(before), joined(4, [2]int{0, 1}, [2]int{0, 2}, [2]int{1, 3}, [2]int{2, 3}))
}
