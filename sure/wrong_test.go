package sure

import (
	"fmt"
	"math"
	"runtime/debug"
	"slices"
	"testing"

	"refinery/api"
	"refinery/bag"
	"refinery/ir"
	"refinery/word"
)

func jump(to int) ir.Last { return ir.Last{End: ir.Jump, Yes: to} }

func ret(r int) ir.Last { return ir.Last{End: ir.Return, A: r} }

// wrong: a program that may not be, or isn't plain, has some answer: a set each; and Check has chapter 3's error, or ErrKind.
func wrong(t *testing.T, what any, p ir.Program) []bag.Set[int] {
	t.Helper()
	err := p.Check()
	if err == api.OK {
		err = api.ErrKind
		if p.Plain() {
			t.Errorf("P1: %v: it may be, and is plain: %v", what, p)
		}
	}
	checks(t, what, p, err)
	s := Set(p)
	if len(s) != len(p.Blocks) {
		t.Errorf("P1: %v: %d sets of %d blocks", what, len(s), len(p.Blocks))
	}
	return s
}

// unset: a program of two blocks that reads what is never set, in the first one and in the second.
func unset() ir.Program {
	return ir.Program{Blocks: []ir.Block{
		{Instrs: []ir.Instr{{Kind: ir.Out, A: 1}, {Kind: ir.Do, Dst: 3, A: 1, B: 2}}, Last: ir.Last{End: ir.Branch, A: 4, Yes: 1, No: 0}},
		{Label: 1, Last: ret(2)},
	}}
}

// fault is a change that makes a program one that may not be.
type fault struct {
	name string
	make func(p *ir.Program)
	err  api.Errno
}

func faults() []fault {
	long := ir.Block{Label: 9, Instrs: make([]ir.Instr, api.MaxInstrs), Last: ir.Last{End: ir.Trap}}
	put := func(x ir.Instr) func(*ir.Program) {
		return func(p *ir.Program) { p.Blocks[1].Instrs = append(p.Blocks[1].Instrs, x) }
	}
	end := func(l ir.Last) func(*ir.Program) { return func(p *ir.Program) { p.Blocks[1].Last = l } }
	phi := func(x ir.Phi) func(*ir.Program) {
		return func(p *ir.Program) { p.Blocks[1].Phis = append(p.Blocks[1].Phis, x) }
	}
	return []fault{
		{"no blocks", func(p *ir.Program) { p.Blocks = nil }, api.ErrMany},
		{"many blocks", func(p *ir.Program) { p.Blocks = append(p.Blocks, make([]ir.Block, api.MaxBlocks-1)...) }, api.ErrMany},
		{"many instructions", func(p *ir.Program) { p.Blocks = append(p.Blocks, long) }, api.ErrSize},
		{"a label below 0", func(p *ir.Program) { p.Blocks[1].Label = -1 }, api.ErrRange},
		{"a label too great", func(p *ir.Program) { p.Blocks[1].Label = api.MaxLabel }, api.ErrRange},
		{"a label twice", func(p *ir.Program) { p.Blocks[1].Label = 0 }, api.ErrTwice},
		{"a phi's lists", phi(ir.Phi{From: []int{0}}), api.ErrForm},
		{"a phi's Dst", phi(ir.Phi{Dst: -1}), api.ErrRange},
		{"a phi's label", phi(ir.Phi{From: []int{7}, Args: []int{0}}), api.ErrNone},
		{"a phi's labels", phi(ir.Phi{From: []int{1, 0}, Args: []int{0, 0}}), api.ErrTwice},
		{"a phi's register", phi(ir.Phi{From: []int{1}, Args: []int{api.MaxReg}}), api.ErrRange},
		{"a kind", put(ir.Instr{Kind: ir.Kinds}), api.ErrKind},
		{"an op", put(ir.Instr{Kind: ir.Do, Op: word.Ops}), api.ErrKind},
		{"a form", put(ir.Instr{Kind: ir.Out, Dst: 1}), api.ErrForm},
		{"a register", put(ir.Instr{Kind: ir.Copy, A: -1}), api.ErrRange},
		{"a slot", put(ir.Instr{Kind: ir.Load, Slot: api.Slots}), api.ErrRange},
		{"an end", end(ir.Last{End: ir.Ends}), api.ErrKind},
		{"an end's form", end(ir.Last{End: ir.Trap, A: 1}), api.ErrForm},
		{"an end's register", end(ret(api.MaxReg)), api.ErrRange},
		{"an end's label", end(jump(7)), api.ErrNone},
	}
}

// P12.1, R2: chapter 3's error comes first, then ErrKind of a phi, then ErrUnset.
func TestErrorOrder(t *testing.T) {
	checks(t, "unset", unset(), api.ErrUnset)
	phi := func(p ir.Program, place int) ir.Program {
		p.Blocks[place].Phis = append(p.Blocks[place].Phis, ir.Phi{Dst: 1})
		return p
	}
	checks(t, "a phi in the first block, unset", phi(unset(), 0), api.ErrKind)
	checks(t, "a phi in the second block, unset", phi(unset(), 1), api.ErrKind)
	for _, f := range faults() {
		p := unset()
		f.make(&p)
		checks(t, f.name+", unset", p, f.err)
		p = phi(phi(unset(), 0), 1)
		f.make(&p)
		checks(t, f.name+", phis, unset", p, f.err)
		p = ir.Program{Blocks: []ir.Block{{Last: jump(1)}, {Label: 1, Last: ir.Last{End: ir.Trap}}}}
		checks(t, f.name+", not yet", p, api.OK)
		f.make(&p)
		checks(t, f.name+" alone", p, f.err)
	}
}

// P12.1: ErrKind of each phi, also of one without entries, in a block that isn't reached, of a program that is sure else; not of an empty list of them.
func TestNotPlain(t *testing.T) {
	text := "@0:\n  %1 = in\n  jump @1\n@1:\n  ret %1\n@2:\n  trap\n"
	for place := range 3 {
		for _, x := range []ir.Phi{{}, {Dst: 5}, {Dst: 1, From: []int{0}, Args: []int{1}}, {Dst: 5, From: []int{0, 1}, Args: []int{1, 7}}} {
			p := read(t, text)
			checks(t, "no phi", p, api.OK)
			p.Blocks[place].Phis = []ir.Phi{x}
			may(t, p)
			checks(t, fmt.Sprintf("%+v in %d", x, place), p, api.ErrKind)
			wrong(t, fmt.Sprintf("%+v in %d", x, place), p)
		}
		p := read(t, text)
		p.Blocks[place].Phis = []ir.Phi{}
		checks(t, "R5: an empty list of phis", p, api.OK)
		are(t, "R5: an empty list of phis", Set(p), [][]int{{}, {1}, {}})
	}
}

// R5, R7: zero values, no blocks.
func TestZero(t *testing.T) {
	are(t, "R7: a zero program", Set(ir.Program{}), nil)
	checks(t, "R7: a zero program", ir.Program{}, api.ErrMany)
	are(t, "R5: no blocks", Set(ir.Program{Blocks: []ir.Block{}}), nil)
	checks(t, "R5: no blocks", ir.Program{Blocks: []ir.Block{}}, api.ErrMany)
	one := ir.Program{Blocks: make([]ir.Block, 1)}
	are(t, "R7: a zero block, which goes on at itself", Set(one), [][]int{{}})
	checks(t, "R7: a zero block, which goes on at itself", one, api.OK)
	one.Blocks[0].Instrs = make([]ir.Instr, 3)
	are(t, "R7: zero instructions", Set(one), [][]int{{}})
	checks(t, "R7: zero instructions", one, api.OK)
	are(t, "R7: two zero blocks", wrong(t, "two zero blocks", ir.Program{Blocks: make([]ir.Block, 2)}), [][]int{{}, {}})
	are(t, "R7: zero blocks", wrong(t, "zero blocks", ir.Program{Blocks: make([]ir.Block, 500)}), make([][]int, 500))
}

// P1: labels that no block has, out of range, two blocks with one label.
func TestWrongLabels(t *testing.T) {
	in := []ir.Instr{{Kind: ir.In, Dst: 3}}
	for _, label := range []int{math.MinInt, -1, 7, 99999, 100000, math.MaxInt} {
		wrong(t, label, ir.Program{Blocks: []ir.Block{{Instrs: in, Last: jump(label)}, {Label: 1, Last: ir.Last{End: ir.Branch, A: 2, Yes: label, No: 2}}, {Label: 2, Last: ret(3)}}})
	}
	for _, label := range []int{math.MinInt, -1, 100000, math.MaxInt} {
		wrong(t, label, ir.Program{Blocks: []ir.Block{{Instrs: in, Last: jump(label)}, {Label: label, Last: ret(3)}}})
		wrong(t, label, ir.Program{Blocks: []ir.Block{{Label: label, Instrs: in, Last: jump(label)}}})
	}
	wrong(t, "labels twice", ir.Program{Blocks: []ir.Block{
		{Label: 4, Instrs: in, Last: jump(7)},
		{Label: 7, Last: ret(1)},
		{Label: 7, Instrs: in, Last: ret(3)},
		{Label: 4, Last: ir.Last{End: ir.Branch, A: 6, Yes: 7, No: 4}},
	}})
}

// P1: kinds and ends that there aren't, registers out of range, phis of unlike lists, whatever else.
func TestWrongAny(t *testing.T) {
	edges := []int{math.MinInt, -1, 0, 1, 2, 99999, 100000, math.MaxInt}
	for seed := range 4000 {
		roll := dice(uint64(seed) + 21)
		edge := func() int { return edges[roll(len(edges))] }
		var p ir.Program
		for range roll(8) {
			b := ir.Block{Label: edge(), Last: ir.Last{End: ir.End(roll(6)), A: edge(), Yes: edge(), No: edge()}}
			for range roll(4) {
				b.Instrs = append(b.Instrs, ir.Instr{Kind: ir.Kind(roll(256)) % 12, Op: word.Op(roll(256)), Dst: edge(), A: edge(), B: edge(), Slot: edge()})
			}
			for range roll(3) * roll(2) {
				x := ir.Phi{Dst: edge()}
				for range roll(4) {
					x.From = append(x.From, edge())
				}
				for range roll(4) {
					x.Args = append(x.Args, edge())
				}
				b.Phis = append(b.Phis, x)
			}
			p.Blocks = append(p.Blocks, b)
		}
		if p.Check() != api.OK || !p.Plain() {
			wrong(t, fmt.Sprintf("%d: %+v", seed, p), p)
		}
	}
}

// R6: the program is as it was, its spare room too; nothing of it is kept; no two sets share memory.
func TestMemory(t *testing.T) {
	p := read(t, "@0:\n  %1 = in\n  %2 = in\n  %9 = in\n  jump @1\n@1:\n  %3 = %2\n  br %1, @1, @2\n@2:\n  jump @3\n@3:\n  ret %2\n@4:\n  ret %1\n")
	long := p.Clone()
	p.Blocks = p.Blocks[:4]
	p.Blocks[0].Instrs = p.Blocks[0].Instrs[:2]
	before := p.Clone()
	want := [][]int{{}, {1, 2}, {1, 2, 3}, {1, 2, 3}}
	s := Set(p)
	are(t, "R6", s, want)
	checks(t, "R6", p, api.OK)
	if !ir.Same(p, before) {
		t.Errorf("R6: the program was changed: %v", p)
	}
	if p.Blocks[0].Instrs[:3][2] != long.Blocks[0].Instrs[2] || p.Blocks[:5][4].Last != long.Blocks[4].Last {
		t.Error("R6: the program's spare room was changed")
	}
	for i := range p.Blocks {
		for k := range p.Blocks[i].Instrs {
			p.Blocks[i].Instrs[k] = ir.Instr{Kind: ir.In, Dst: 50}
		}
		p.Blocks[i] = ir.Block{Last: ret(50)}
	}
	are(t, "R6: the program was changed behind it", s, want)
	for i := range s {
		for _, r := range want[i] {
			s[i].Drop(r)
		}
		for r := range 40 {
			s[i].Add(70 - r)
		}
		want[i] = s[i].List()
		are(t, "R6: a set was changed", s, want)
	}
}

// R4, R6: Check of a program that has an error changes nothing either.
func TestCheckMemory(t *testing.T) {
	for _, f := range faults() {
		p := unset()
		f.make(&p)
		before := p.Clone()
		Check(p)
		Set(p)
		if !ir.Same(p, before) {
			t.Errorf("R4: %s: the program was changed: %v", f.name, p)
		}
	}
}

// R6, R8: each answer is of its own, and the same of the same.
func TestTwice(t *testing.T) {
	for seed := range 50 {
		p := mended(dice(9), anyProgram(dice(uint64(seed)), 40, 20), 20)
		err := Check(p)
		first, second := Set(p), Set(p)
		want := lists(first)
		are(t, "R8: twice", second, want)
		for i := range second {
			for _, r := range want[i] {
				second[i].Drop(r)
			}
		}
		are(t, "R6: another answer was changed", first, want)
		are(t, "R8: again", Set(p), want)
		checks(t, "R8: again", p, err)
	}
}

// P12.1: the answer hangs on which block goes on where, not on the labels, nor on the order of blocks behind the first one.
func TestOtherNames(t *testing.T) {
	for seed := range 200 {
		roll := dice(uint64(seed) + 31)
		n := 2 + roll(10)
		p := mended(roll, anyProgram(roll, n, 6), 6)
		q := ir.Program{Blocks: slices.Clone(p.Blocks)}
		slices.Reverse(q.Blocks[1:])
		want := lists(Set(p))
		slices.Reverse(want[1:])
		are(t, fmt.Sprint("blocks the other way round, ", seed), Set(q), want)
		checks(t, fmt.Sprint("blocks the other way round, ", seed), q, Check(p))
	}
}

// row: n blocks, each of which jumps to the next one; the last to that.
func row(n, back int) ir.Program {
	var p ir.Program
	for i := range n {
		p.Blocks = append(p.Blocks, ir.Block{Label: i, Last: jump(i + 1)})
	}
	p.Blocks[n-1].Last = jump(back)
	return p
}

// P1: rows and rings of many blocks, with little stack.
func TestLong(t *testing.T) {
	defer debug.SetMaxStack(debug.SetMaxStack(1 << 20))
	const n = 100000
	for _, back := range []int{0, n / 2, n - 1} {
		p := row(n, back)
		p.Blocks[n/3].Instrs = []ir.Instr{{Kind: ir.In, Dst: 5}}
		p.Blocks[n-1].Instrs = []ir.Instr{{Kind: ir.In, Dst: 6}}
		for i, s := range wrong(t, "a long row", p) {
			want := []int{5}
			if i <= n/3 {
				want = nil
			}
			if !slices.Equal(s.List(), want) {
				t.Fatalf("P1: a long row: %d: %v, not %v", i, s.List(), want)
			}
		}
	}
}

// P1: so many blocks, each of which sets a register of its own, that there is no room for all that is sure: some answer.
func TestTooGreat(t *testing.T) {
	const n = 100000
	p := row(n, 0)
	for i := range p.Blocks {
		p.Blocks[i].Instrs = []ir.Instr{{Kind: ir.In, Dst: i}}
	}
	wrong(t, "too great", p)
	p.Blocks[0].Last = jump(n - 1)
	wrong(t, "too great, nearly nothing reached", p)
	many := ir.Program{Blocks: []ir.Block{{Last: jump(1)}, {Label: 1, Last: jump(1)}}}
	for i := range n {
		many.Blocks[0].Instrs = append(many.Blocks[0].Instrs, ir.Instr{Kind: ir.In, Dst: n - i})
	}
	s := wrong(t, "many instructions", many)
	if s[0].Len() != 0 || s[1].Len() != n {
		t.Errorf("P1: many instructions: %d, %d", s[0].Len(), s[1].Len())
	}
}

// P12.1: as many blocks and registers as may be, all of which are sure: the first block sets 3600, and the rounds behind it, of which each goes back to any one ahead, read them.
func TestMany(t *testing.T) {
	const n, regs = api.MaxBlocks, api.MaxInstrs - api.MaxBlocks
	var p ir.Program
	for i := range n {
		p.Blocks = append(p.Blocks, ir.Block{Label: i, Last: ir.Last{End: ir.Branch, A: regs - 1 - i, Yes: min(i+1, n-1), No: i * 7919 % (i + 1)}})
	}
	for r := range regs {
		p.Blocks[0].Instrs = append(p.Blocks[0].Instrs, ir.Instr{Kind: ir.In, Dst: 2*r%regs + 2*r/regs})
	}
	may(t, p)
	checks(t, "many registers", p, api.OK)
	for i, s := range Set(p) {
		want := regs
		if i == 0 {
			want = 0
		}
		if s.Len() != want {
			t.Fatalf("P12.1: many registers: %d: %d, not %d", i, s.Len(), want)
		}
	}
	p.Blocks[n-1].Last.A = regs
	checks(t, "many registers, another one read in the last", p, api.ErrUnset)
}

// P12.1: as many blocks as may be in a row, each of which sets nine registers of its own, and goes back to the first but one, too.
func TestManyInRow(t *testing.T) {
	const n, each = api.MaxBlocks, api.MaxInstrs/api.MaxBlocks - 1
	var p ir.Program
	for i := range n {
		b := ir.Block{Label: n - i, Last: ir.Last{End: ir.Branch, A: 99999 - i*each, Yes: max(n-i-1, 1), No: n - 1}}
		for k := range each {
			b.Instrs = append(b.Instrs, ir.Instr{Kind: ir.In, Dst: 99999 - i*each - k})
		}
		p.Blocks = append(p.Blocks, b)
	}
	may(t, p)
	checks(t, "a row of many", p, api.OK)
	for i, s := range Set(p) {
		var want []int
		for r := 99999 - i*each + 1; r <= 99999; r++ {
			want = append(want, r)
		}
		// One comes back to the first but one, where what the first one sets alone is set.
		if !slices.Equal(s.List(), want) {
			t.Fatalf("P12.1: a row of many: %d: %d registers, not %d", i, s.Len(), len(want))
		}
	}
	// A way past a block in the middle: what it alone sets isn't sure any more.
	p.Blocks[n/2-1].Last.No = n - n/2 - 1
	gone := 0
	for i, s := range Set(p) {
		if i > n/2 {
			gone += i*each - s.Len()
		}
	}
	if gone != (n-1-n/2)*each {
		t.Errorf("P12.1: a row of many, with a way past one: %d are gone", gone)
	}
	p.Blocks[n-1].Last.A = p.Blocks[n/2].Last.A
	checks(t, "a row of many, with a way past one", p, api.ErrUnset)
}
