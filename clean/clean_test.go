package clean

import (
	"fmt"
	"math"
	"testing"

	"refinery/api"
	"refinery/ir"
	"refinery/word"
)

func jump(to int) ir.Last           { return ir.Last{End: ir.Jump, Yes: to} }
func branch(a, yes, no int) ir.Last { return ir.Last{End: ir.Branch, A: a, Yes: yes, No: no} }
func ret(a int) ir.Last             { return ir.Last{End: ir.Return, A: a} }
func trap() ir.Last                 { return ir.Last{End: ir.Trap} }

// block: a label, an end, phis; its instructions tell it from others.
func block(label int, l ir.Last, phis ...ir.Phi) ir.Block {
	return ir.Block{Label: label, Phis: phis, Instrs: []ir.Instr{{Kind: ir.In, Dst: 1}, {Dst: 2, N: int64(label)}, {Kind: ir.Out, A: 2}}, Last: l}
}

// bare: a block with an end alone.
func bare(label int, l ir.Last) ir.Block { return ir.Block{Label: label, Last: l} }

func program(l ...ir.Block) ir.Program { return ir.Program{Blocks: l} }

// from: a phi, its entries label by label, each a label and a register.
func from(dst int, pairs ...int) ir.Phi {
	x := ir.Phi{Dst: dst}
	for i := 0; i < len(pairs); i += 2 {
		x.From = append(x.From, pairs[i])
		x.Args = append(x.Args, pairs[i+1])
	}
	return x
}

func may(t *testing.T, what any, p ir.Program) {
	t.Helper()
	if err := p.Check(); err != api.OK {
		t.Fatalf("%v: error %d: %+v", what, err, p)
	}
}

func is(t *testing.T, what any, p, want ir.Program) {
	t.Helper()
	if !ir.Same(p, want) {
		t.Errorf("%v:\n%+v, not\n%+v", what, p, want)
	}
}

// makes: a call's answer of a program that may be; what comes out may be, too.
func makes(t *testing.T, what any, call func(ir.Program) ir.Program, p, want ir.Program) {
	t.Helper()
	may(t, what, p)
	before := p.Clone()
	q := call(p)
	is(t, what, q, want)
	may(t, what, q)
	is(t, fmt.Sprint("R6: what was handed in, ", what), p, before)
}

// P14.1: Label of none, of one, of labels in any order, at the limits.
func TestLabel(t *testing.T) {
	for _, c := range []struct {
		labels []int
		want   int
	}{
		{nil, 0},
		{[]int{0}, 1},
		{[]int{7}, 8},
		{[]int{99999}, 100000},
		{[]int{0, 1, 2}, 3},
		{[]int{2, 1, 0}, 3},
		{[]int{5, 70, 3}, 71},
		{[]int{70, 5, 3}, 71},
		{[]int{3, 5, 70}, 71},
		{[]int{0, 99999, 99998}, 100000},
	} {
		var p ir.Program
		for _, label := range c.labels {
			p.Blocks = append(p.Blocks, block(label, trap()))
		}
		if n := Label(p); n != c.want {
			t.Errorf("P14.1: Label of %v: %d, not %d", c.labels, n, c.want)
		}
	}
	// Labels that ends and phis name are no blocks' own.
	p := program(block(4, jump(90), from(1, 95, 1)))
	if n := Label(p); n != 5 {
		t.Errorf("P14.1: Label counts labels that no block has: %d", n)
	}
}

// P14.1: entries of blocks ahead stay, those of others go, in each phi of each block.
func TestWays(t *testing.T) {
	all := func(dst int) ir.Phi { return from(dst, 3, 30, 5, 50, 8, 80, 60, 600) }
	for _, c := range []struct {
		name    string
		p, want ir.Program
	}{
		{"by Jump and Branch, of others and of none",
			program(block(8, branch(1, 5, 3)), block(5, jump(3), all(10), from(11)), block(60, jump(5), all(12)), block(3, ret(1), all(13), from(14, 5, 9), from(15, 60, 9))),
			program(block(8, branch(1, 5, 3)), block(5, jump(3), from(10, 8, 80, 60, 600), from(11)), block(60, jump(5), from(12)), block(3, ret(1), from(13, 5, 50, 8, 80), from(14, 5, 9), from(15)))},
		{"a block that goes on at itself",
			program(block(60, jump(3)), block(3, branch(1, 3, 8), all(10)), block(8, branch(1, 5, 5), all(11)), block(5, jump(5), all(12))),
			program(block(60, jump(3)), block(3, branch(1, 3, 8), from(10, 3, 30, 60, 600)), block(8, branch(1, 5, 5), from(11, 3, 30)), block(5, jump(5), from(12, 5, 50, 8, 80)))},
		{"of the first, one goes back there from blocks that aren't reached, too",
			program(block(5, branch(1, 5, 8), all(10)), block(8, trap(), all(11)), block(60, branch(1, 60, 5), all(12)), block(3, ret(4), all(13))),
			program(block(5, branch(1, 5, 8), from(10, 5, 50, 60, 600)), block(8, trap(), from(11, 5, 50)), block(60, branch(1, 60, 5), from(12, 60, 600)), block(3, ret(4), from(13)))},
		{"no phis", program(block(5, jump(8)), block(8, jump(5))), program(block(5, jump(8)), block(8, jump(5)))},
		{"phis without entries", program(block(5, jump(5), from(3), from(4))), program(block(5, jump(5), from(3), from(4)))},
	} {
		makes(t, "P14.1: Ways: "+c.name, Ways, c.p, c.want)
		makes(t, "P14.1: Ways, again: "+c.name, Ways, c.want, c.want)
	}
}

// P14.1: all reached, only the first, rings that nobody comes to, in order; phis.
func TestReached(t *testing.T) {
	all := func(dst int) ir.Phi { return from(dst, 3, 30, 5, 50, 8, 80, 60, 600) }
	for _, c := range []struct {
		name    string
		p, want ir.Program
	}{
		{"all", program(block(8, branch(1, 60, 3)), block(5, jump(8)), block(60, jump(5)), block(3, trap())),
			program(block(8, branch(1, 60, 3)), block(5, jump(8)), block(60, jump(5)), block(3, trap()))},
		{"only the first, that returns", program(block(8, ret(1), from(4, 3, 1)), block(3, jump(8)), block(5, jump(3))),
			program(block(8, ret(1), from(4)))},
		{"only the first, that traps", program(block(8, trap()), block(3, jump(8))), program(block(8, trap()))},
		{"only the first, that goes on at itself", program(block(8, branch(1, 8, 8), all(1)), block(3, jump(8)), block(5, trap()), block(60, ret(1))),
			program(block(8, branch(1, 8, 8), from(1, 8, 80)))},
		{"a ring that nobody comes to, that goes on at one that is reached",
			program(block(8, jump(60)), block(3, jump(5), all(11)), block(60, ret(7), all(10)), block(5, branch(1, 3, 60))),
			program(block(8, jump(60)), block(60, ret(7), from(10, 8, 80)))},
		{"a block that goes on at itself alone", program(block(5, jump(60)), block(8, jump(8)), block(60, trap(), all(3)), block(3, jump(60))),
			program(block(5, jump(60)), block(60, trap(), from(3, 5, 50)))},
		{"in order, though met in another one", program(block(5, branch(1, 60, 3)), block(3, trap()), block(8, jump(3)), block(60, jump(3), all(4))),
			program(block(5, branch(1, 60, 3)), block(3, trap()), block(60, jump(3), from(4, 5, 50)))},
		{"entries of blocks that are reached, but aren't ahead", program(block(5, jump(8)), block(8, jump(60)), block(60, trap(), all(4)), block(3, trap())),
			program(block(5, jump(8)), block(8, jump(60)), block(60, trap(), from(4, 8, 80)))},
	} {
		makes(t, "P14.1: Reached: "+c.name, Reached, c.p, c.want)
		makes(t, "P14.1: Reached, again: "+c.name, Reached, c.want, c.want)
	}
}

// P14.1: Front, if a block goes on at the first, whichever it is and however.
func TestFront(t *testing.T) {
	x := from(10, 3, 30, 5, 50)
	for _, c := range []struct {
		name string
		p    ir.Program
		put  bool
	}{
		{"nobody", program(block(5, branch(1, 3, 8), x), block(3, jump(8)), block(8, trap())), false},
		{"one block that returns", program(block(5, ret(1))), false},
		{"others go in a ring", program(block(5, jump(3)), block(3, jump(8)), block(8, branch(1, 3, 8))), false},
		{"itself, by Jump", program(block(5, jump(5))), true},
		{"itself, by Branch's Yes", program(block(5, branch(1, 5, 3), x), block(3, trap())), true},
		{"itself, by Branch's No", program(block(5, branch(1, 3, 5)), block(3, trap())), true},
		{"itself, by both", program(block(5, branch(1, 5, 5))), true},
		{"another, by Jump", program(block(5, jump(3), x), block(3, jump(5))), true},
		{"another, by Yes", program(block(5, jump(3)), block(3, branch(1, 5, 8)), block(8, trap())), true},
		{"another, by No", program(block(5, jump(3)), block(3, branch(1, 8, 5)), block(8, trap())), true},
		{"the last one", program(block(5, jump(3)), block(3, jump(8)), block(8, jump(5))), true},
		{"one that isn't reached", program(block(5, ret(1), x, from(11)), block(3, jump(5))), true},
		{"the greatest label is the first's", program(block(99998, jump(99998)), block(7, trap())), true},
		{"the greatest label is another's", program(block(0, jump(9)), block(9, jump(0)), block(3, trap())), true},
	} {
		want := c.p
		if c.put {
			label := 0
			for _, b := range c.p.Blocks {
				label = max(label, b.Label+1)
			}
			want = program(append([]ir.Block{bare(label, jump(c.p.Blocks[0].Label))}, c.p.Blocks...)...)
		}
		makes(t, "P14.1: Front: "+c.name, Front, c.p, want)
		makes(t, "P14.1: Front, again: "+c.name, Front, want, want)
	}
	// Of blocks, when limits don't last: it is put in all the same, and may not be.
	is(t, "P14.1: Front: a label too great", Front(program(block(99999, jump(99999)))), program(bare(100000, jump(99999)), block(99999, jump(99999))))
}

// P14.1: Turned of each end, where one label, the other, both or none is the one.
func TestTurned(t *testing.T) {
	for _, c := range []struct {
		l, want ir.Last
	}{
		{jump(5), jump(9)},
		{jump(4), jump(4)},
		{jump(9), jump(9)},
		{branch(5, 5, 4), branch(5, 9, 4)},
		{branch(5, 4, 5), branch(5, 4, 9)},
		{branch(5, 5, 5), branch(5, 9, 9)},
		{branch(5, 4, 3), branch(5, 4, 3)},
		{branch(5, 9, 5), branch(5, 9, 9)},
		{ret(5), ret(5)},
		{trap(), trap()},
	} {
		if l := Turned(c.l, 5, 9); l != c.want {
			t.Errorf("P14.1: Turned(%+v, 5, 9): %+v", c.l, l)
		}
		if l := Turned(c.l, 5, 5); l != c.l {
			t.Errorf("P14.1: Turned(%+v, 5, 5): %+v", c.l, l)
		}
	}
	// Those to be turned are 0, too, which is what stands where an end has no label.
	for _, c := range []struct {
		l, want ir.Last
	}{{jump(0), jump(3)}, {branch(0, 0, 1), branch(0, 3, 1)}, {branch(0, 1, 0), branch(0, 1, 3)}, {ret(0), ret(0)}, {trap(), trap()}} {
		if l := Turned(c.l, 0, 3); l != c.want {
			t.Errorf("P14.1: Turned(%+v, 0, 3): %+v", c.l, l)
		}
	}
}

// P14.1, P1: Turned of any end, of labels of whatever kind; only where it goes on, and nothing else.
func TestTurnedAny(t *testing.T) {
	edges := []int{math.MinInt, -1, 0, 1, 99999, 100000, math.MaxInt}
	for end := range 256 {
		for _, yes := range edges {
			for _, no := range edges {
				for _, to := range edges {
					l := ir.Last{End: ir.End(end), A: yes, Yes: yes, No: no}
					want := l
					if l.End <= ir.Branch {
						want.Yes = to
					}
					if l.End == ir.Branch && no == yes {
						want.No = to
					}
					if got := Turned(l, yes, to); got != want {
						t.Fatalf("P14.1: Turned(%+v, %d, %d): %+v", l, yes, to, got)
					}
				}
			}
		}
	}
}

// P14.2: the chapter's example.
func TestExample(t *testing.T) {
	sum := []ir.Instr{{Kind: ir.Do, Op: word.Add, Dst: 2, A: 2, B: 0}, {Kind: ir.Do, Op: word.Sub, Dst: 0, A: 0, B: 1}}
	begin := ir.Block{Instrs: []ir.Instr{{Kind: ir.In}, {Dst: 1, N: 1}, {Dst: 2}}, Last: jump(1)}
	makes(t, "P14.2: a block that branches to itself, or on", Edges,
		program(begin, ir.Block{Label: 1, Instrs: sum, Last: branch(0, 1, 2)}, bare(2, ret(2))),
		program(begin, ir.Block{Label: 1, Instrs: sum, Last: branch(0, 3, 2)}, bare(2, ret(2)), bare(3, jump(1))))
}

// P14.2: which ways are parted, the new blocks' labels and order.
func TestEdges(t *testing.T) {
	for _, c := range []struct {
		name    string
		p, want ir.Program
	}{
		{"both come from one", program(block(4, branch(1, 7, 2)), block(7, trap()), block(2, ret(1))), ir.Program{}},
		{"by Jump to one that comes from two", program(block(4, branch(1, 7, 2)), block(7, jump(9)), block(2, jump(9)), block(9, ret(1))), ir.Program{}},
		{"at one by both labels, which comes from two", program(block(4, branch(1, 7, 2)), block(7, branch(1, 9, 9)), block(2, branch(3, 9, 9)), block(9, ret(1))), ir.Program{}},
		{"at itself by both labels", program(block(4, jump(7)), block(7, branch(1, 7, 7))), ir.Program{}},
		{"the first at itself, which comes from one", program(block(4, branch(1, 4, 7)), block(7, trap())), ir.Program{}},
		{"the first at itself, which comes from two", program(block(4, branch(1, 4, 7)), block(7, jump(4))),
			program(block(4, branch(1, 8, 7)), block(7, jump(4)), bare(8, jump(4)))},
		{"Yes alone", program(block(4, branch(1, 7, 2)), block(7, trap()), block(2, jump(7))),
			program(block(4, branch(1, 8, 2)), block(7, trap()), block(2, jump(7)), bare(8, jump(7)))},
		{"No alone", program(block(4, branch(1, 2, 7)), block(7, trap()), block(2, jump(7))),
			program(block(4, branch(1, 2, 8)), block(7, trap()), block(2, jump(7)), bare(8, jump(7)))},
		{"both, Yes first", program(block(4, branch(1, 7, 2)), block(7, jump(2)), block(2, jump(7))),
			program(block(4, branch(1, 8, 9)), block(7, jump(2)), block(2, jump(7)), bare(8, jump(7)), bare(9, jump(2)))},
		{"one that comes from one that isn't reached", program(block(4, branch(1, 7, 2)), block(7, trap()), block(2, trap()), block(3, jump(2))),
			program(block(4, branch(1, 7, 8)), block(7, trap()), block(2, trap()), block(3, jump(2)), bare(8, jump(2)))},
		{"by one that isn't reached", program(block(4, jump(2)), block(7, branch(1, 7, 2)), block(2, trap())),
			program(block(4, jump(2)), block(7, branch(1, 7, 8)), block(2, trap()), bare(8, jump(2)))},
		{"one that comes from one by both labels, and from another", program(block(4, branch(1, 7, 2)), block(2, branch(1, 7, 7)), block(7, trap())),
			program(block(4, branch(1, 8, 2)), block(2, branch(1, 7, 7)), block(7, trap()), bare(8, jump(7)))},
		{"several, block by block", program(block(50, branch(1, 20, 10)), block(20, branch(2, 10, 20)), block(10, branch(3, 50, 20))),
			program(block(50, branch(1, 51, 52)), block(20, branch(2, 53, 54)), block(10, branch(3, 50, 55)),
				bare(51, jump(20)), bare(52, jump(10)), bare(53, jump(10)), bare(54, jump(20)), bare(55, jump(20)))},
	} {
		want := c.want
		if len(want.Blocks) == 0 {
			want = c.p
		}
		makes(t, "P14.2: Edges: "+c.name, Edges, c.p, want)
		makes(t, "P14.2: Edges, again: "+c.name, Edges, want, want)
	}
}

// P14.2: phis have the new block's label instead, and rise; those of other blocks, and entries of others, are as they were.
func TestEdgesPhis(t *testing.T) {
	all := func(dst int) ir.Phi { return from(dst, 2, 20, 4, 40, 7, 70) }
	for _, c := range []struct {
		name    string
		p, want ir.Program
	}{
		{"at itself", program(block(4, jump(2)), block(2, branch(1, 2, 7), from(10, 2, 20, 4, 40), from(11, 2, 9), from(12, 4, 9), from(13)), block(7, trap(), from(14, 2, 5))),
			program(block(4, jump(2)), block(2, branch(1, 8, 7), from(10, 4, 40, 8, 20), from(11, 8, 9), from(12, 4, 9), from(13)), block(7, trap(), from(14, 2, 5)), bare(8, jump(2)))},
		{"one label is turned in one of two blocks", program(block(2, branch(1, 4, 7), all(9)), block(4, jump(7), all(10), all(11)), block(7, trap(), all(12))),
			program(block(2, branch(1, 4, 8), all(9)), block(4, jump(7), all(10), all(11)), block(7, trap(), from(12, 4, 40, 7, 70, 8, 20)), bare(8, jump(7)))},
		{"one label is turned to two", program(block(2, branch(1, 4, 7)), block(4, jump(7), all(10)), block(7, jump(4), all(12))),
			program(block(2, branch(1, 8, 9)), block(4, jump(7), from(10, 4, 40, 7, 70, 8, 20)), block(7, jump(4), from(12, 4, 40, 7, 70, 9, 20)), bare(8, jump(4)), bare(9, jump(7)))},
		{"labels that rise otherwise than blocks do", program(block(7, branch(1, 4, 2), all(9)), block(4, branch(1, 4, 2), all(10)), block(2, branch(1, 2, 7), all(11))),
			program(block(7, branch(1, 8, 9), from(9, 2, 20, 4, 40, 7, 70)), block(4, branch(1, 10, 11), from(10, 2, 20, 8, 70, 10, 40)), block(2, branch(1, 12, 7), from(11, 9, 70, 11, 40, 12, 20)),
				bare(8, jump(4)), bare(9, jump(2)), bare(10, jump(4)), bare(11, jump(2)), bare(12, jump(2)))},
		{"of the first", program(block(4, branch(1, 4, 2), all(9)), block(2, branch(1, 7, 4), all(10)), block(7, ret(10), all(11))),
			program(block(4, branch(1, 8, 2), from(9, 7, 70, 8, 40, 9, 20)), block(2, branch(1, 7, 9), all(10)), block(7, ret(10), all(11)), bare(8, jump(4)), bare(9, jump(4)))},
		{"of one that comes from one", program(block(4, branch(1, 2, 7)), block(2, trap(), all(10)), block(7, trap(), all(11))),
			program(block(4, branch(1, 2, 7)), block(2, trap(), all(10)), block(7, trap(), all(11)))},
	} {
		makes(t, "P14.2: Edges, phis: "+c.name, Edges, c.p, c.want)
		makes(t, "P14.2: Edges, phis, again: "+c.name, Edges, c.want, c.want)
	}
}
