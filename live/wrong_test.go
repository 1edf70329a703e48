package live

import (
	"fmt"
	"math"
	"runtime/debug"
	"testing"

	"refinery/api"
	"refinery/bag"
	"refinery/ir"
)

// wrong: a program that may not be has some answer: a set each.
func wrong(t *testing.T, what any, p ir.Program) Sets {
	t.Helper()
	if p.Check() == api.OK {
		t.Errorf("P1: %v: it may be: %v", what, p)
	}
	s := Of(p)
	if len(s.In) != len(p.Blocks) || len(s.Out) != len(p.Blocks) {
		t.Errorf("P1: %v: %d In, %d Out, of %d blocks", what, len(s.In), len(s.Out), len(p.Blocks))
	}
	return s
}

func jump(to int) ir.Last { return ir.Last{End: ir.Jump, Yes: to} }

func ret(r int) ir.Last { return ir.Last{End: ir.Return, A: r} }

// P1: labels that no block has, out of range, two blocks with one label.
func TestWrongLabels(t *testing.T) {
	for _, label := range []int{math.MinInt, -1, 7, 99999, 100000, math.MaxInt} {
		p := ir.Program{Blocks: []ir.Block{{Last: jump(label)}, {Label: 1, Last: ir.Last{End: ir.Branch, A: 2, Yes: label, No: 2}}, {Label: 2, Last: ret(3)}}}
		s := wrong(t, label, p)
		are(t, "a label that no block has", s, [][]int{{}, {2, 3}, {3}}, [][]int{{}, {3}, {}})
	}
	for _, label := range []int{math.MinInt, -1, 100000, math.MaxInt} {
		p := ir.Program{Blocks: []ir.Block{{Last: jump(label)}, {Label: label, Last: ret(3)}}}
		wrong(t, label, p)
	}
	two := ir.Program{Blocks: []ir.Block{
		{Label: 4, Last: jump(7)},
		{Label: 7, Phis: []ir.Phi{{Dst: 1, From: []int{4}, Args: []int{2}}}, Last: ret(1)},
		{Label: 7, Phis: []ir.Phi{{Dst: 3, From: []int{4}, Args: []int{5}}}, Last: ret(3)},
		{Label: 4, Last: ir.Last{End: ir.Branch, A: 6, Yes: 7, No: 4}},
	}}
	wrong(t, "labels twice", two)
	zero := wrong(t, "zero blocks", ir.Program{Blocks: make([]ir.Block, 500)})
	are(t, "zero blocks", zero, make([][]int, 500), make([][]int, 500))
}

// P1: phis of unlike lists, of labels that no block has, that don't rise, that are there twice, of registers out of range.
func TestWrongPhis(t *testing.T) {
	edges := []int{math.MinInt, -1, 0, 1, 99999, 100000, math.MaxInt}
	for _, x := range []ir.Phi{
		{Dst: 1, From: []int{0}},
		{Dst: 1, Args: []int{5}},
		{Dst: 1, From: []int{0, 1}, Args: []int{5}},
		{Dst: 1, From: []int{0}, Args: []int{5, 6}},
		{Dst: 1, From: []int{1, 0}, Args: []int{5, 6}},
		{Dst: 1, From: []int{0, 0}, Args: []int{5, 6}},
		{Dst: -1, From: []int{0}, Args: []int{-1}},
		{Dst: 1, From: edges, Args: edges},
		{Dst: math.MaxInt, From: edges, Args: edges},
		{Dst: math.MinInt, From: edges[1:], Args: edges},
	} {
		for _, last := range []ir.Last{jump(1), jump(0), {End: ir.Branch, A: x.Dst, Yes: 1, No: 0}, ret(1)} {
			p := ir.Program{Blocks: []ir.Block{{Last: jump(1)}, {Label: 1, Phis: []ir.Phi{x, x}, Last: last}}}
			wrong(t, fmt.Sprintf("%+v", x), p)
			p.Blocks[0].Phis = []ir.Phi{x}
			wrong(t, fmt.Sprintf("%+v", x), p)
		}
	}
}

// P1: kinds and ends that there aren't, registers out of range, whatever else.
func TestWrongAny(t *testing.T) {
	edges := []int{math.MinInt, -1, 0, 1, 2, 99999, 100000, math.MaxInt}
	for seed := range 3000 {
		roll := dice(uint64(seed) + 21)
		edge := func() int { return edges[roll(len(edges))] }
		var p ir.Program
		for range roll(8) {
			b := ir.Block{Label: edge(), Last: ir.Last{End: ir.End(roll(6)), A: edge(), Yes: edge(), No: edge()}}
			for range roll(4) {
				b.Instrs = append(b.Instrs, ir.Instr{Kind: ir.Kind(roll(256)) % 12, Dst: edge(), A: edge(), B: edge(), Slot: edge()})
			}
			for range roll(3) {
				x := ir.Phi{Dst: edge()}
				for range roll(4) {
					x.From = append(x.From, edge())
				}
				for range roll(4) {
					x.Args = append(x.Args, edge())
				}
				b.Phis = append(b.Phis, x)
			}
			p.Blocks = append(p.Blocks, b)
		}
		if p.Check() != api.OK {
			wrong(t, fmt.Sprintf("%d: %+v", seed, p), p)
		}
	}
}

// R6: the program is as it was, its spare room too; nothing of it is kept; no two sets share memory.
func TestOfMemory(t *testing.T) {
	p := read(t, "@0:\n  %1 = in\n  %2 = in\n  %9 = in\n  jump @1\n@1:\n  out %2\n  br %1, @1, @2\n@2:\n  ret %2\n", nil)
	p.Blocks[1].Phis = []ir.Phi{{Dst: 2, From: []int{0, 1, 2}, Args: []int{9, 2, 5}}}
	long := p.Clone()
	p.Blocks = p.Blocks[:2]
	p.Blocks[0].Instrs = p.Blocks[0].Instrs[:2]
	p.Blocks[1].Phis[0].From = p.Blocks[1].Phis[0].From[:2]
	p.Blocks[1].Phis[0].Args = p.Blocks[1].Phis[0].Args[:2]
	p.Blocks[1].Last.No = 1
	before := p.Clone()
	s := Of(p)
	in, out := [][]int{{9}, {1, 2}}, [][]int{{1, 9}, {1, 2}}
	are(t, "R6: Of", s, in, out)
	if !ir.Same(p, before) {
		t.Errorf("R6: Of changed the program: %v", p)
	}
	full := ir.Program{Blocks: p.Blocks[:3]}
	if full.Blocks[0].Instrs[:3][2] != long.Blocks[0].Instrs[2] || full.Blocks[2].Last != long.Blocks[2].Last ||
		full.Blocks[1].Phis[0].From[:3][2] != 2 || full.Blocks[1].Phis[0].Args[:3][2] != 5 {
		t.Error("R6: Of changed the program's spare room")
	}
	for i := range p.Blocks {
		p.Blocks[i] = ir.Block{Last: ret(50)}
	}
	are(t, "R6: Of, the program changed behind it", s, in, out)
	ownSets(t, s, in, out)
}

// ownSets: of sets that are changed, one by one, the others stay.
func ownSets(t *testing.T, s Sets, in, out [][]int) {
	t.Helper()
	for i := range s.In {
		for _, side := range []struct {
			sets []bag.Set[int]
			want [][]int
		}{{s.In, in}, {s.Out, out}} {
			for _, r := range side.want[i] {
				side.sets[i].Drop(r)
			}
			side.sets[i].Add(70 + i)
			side.want[i] = []int{70 + i}
			are(t, "R6: a set was changed", s, in, out)
		}
	}
}

// R6, R8: each answer is of its own, and the same of the same.
func TestOfTwice(t *testing.T) {
	p := anyProgram(dice(4), 40, 20)
	first, second := Of(p), Of(p)
	in, out := lists(first.In), lists(first.Out)
	are(t, "R8: Of, twice", second, in, out)
	for i := range p.Blocks {
		for r := range 20 {
			second.In[i].Drop(r)
			second.Out[i].Drop(r)
		}
	}
	are(t, "R6: Of, another answer was changed", first, in, out)
	are(t, "R8: Of, again", Of(p), in, out)
}

// row: n blocks, each of which jumps to the next one; the last returns a register.
func row(n, r int) ir.Program {
	var p ir.Program
	for i := range n {
		p.Blocks = append(p.Blocks, ir.Block{Label: i, Last: jump(i + 1)})
	}
	p.Blocks[n-1].Last = ret(r)
	return p
}

// P1: rows and rings of many blocks, with little stack.
func TestLong(t *testing.T) {
	defer debug.SetMaxStack(debug.SetMaxStack(1 << 20))
	const n = 100000
	p := row(n, 5)
	all := func(what string, s Sets) {
		t.Helper()
		for i := range n - 1 {
			if s.In[i].Len() != 1 || s.Out[i].Len() != 1 || !s.In[i].Has(5) || !s.Out[i].Has(5) {
				t.Fatalf("P11.1: %s: %d: %v, %v", what, i, s.In[i], s.Out[i])
			}
		}
	}
	s := Of(p)
	all("a row", s)
	is(t, "P11.1: a row: the last", s.In[n-1], 5)
	is(t, "P11.1: a row: the last", s.Out[n-1])
	p.Blocks[n-1].Last = jump(0)
	p.Blocks[n/2].Instrs = []ir.Instr{{Kind: ir.Out, A: 5}}
	s = Of(p)
	all("a ring", s)
	is(t, "P11.1: a ring: the last", s.Out[n-1], 5)
	p.Blocks[n/2].Instrs = []ir.Instr{{Kind: ir.Out, A: 5}, {Kind: ir.In, Dst: 5}}
	all("a ring that sets it", Of(p))
}

// P1: one block with many instructions.
func TestWide(t *testing.T) {
	const n = 30000
	b := ir.Block{Last: ret(n)}
	for i := range n {
		b.Instrs = append(b.Instrs, ir.Instr{Kind: ir.Do, Dst: n - i, A: i * 7919 % n, B: n + i})
	}
	want := plainEach(b, nil, unseen)
	is(t, "P11.1: Each of many instructions", Each(b, bag.Set[int]{}, nil), want.sorted()...)
	s := Of(ir.Program{Blocks: []ir.Block{b}})
	is(t, "P11.1: Of many instructions", s.In[0], want.sorted()...)
	is(t, "P11.1: Of many instructions", s.Out[0])
}

// P11.1: as many blocks as may be, and as many registers live in all of them as these can read: rounds in each other, each of whose lasts goes back to its first.
func TestMany(t *testing.T) {
	const n = api.MaxBlocks
	var p ir.Program
	for i := range n {
		b := ir.Block{Label: i, Last: ir.Last{End: ir.Branch, A: i, Yes: min(i+1, n-1), No: max(n-1-i, 0)}}
		for k := range 9 {
			b.Instrs = append(b.Instrs, ir.Instr{Kind: ir.Put, A: 1000 + i*9 + k, B: 50000 - i*9 - k})
		}
		p.Blocks = append(p.Blocks, b)
	}
	may(t, p)
	var want []int
	for r := range 99999 {
		if r < n || r >= 1000 && r < 1000+9*n || r > 50000-9*n && r <= 50000 {
			want = append(want, r)
		}
	}
	s := Of(p)
	for i := range n {
		is(t, fmt.Sprint("P11.1: many: In ", i), s.In[i], want...)
		is(t, fmt.Sprint("P11.1: many: Out ", i), s.Out[i], want...)
	}
}

// P11.1: as many phis as may be, with entries from as many blocks as may be.
func TestManyPhis(t *testing.T) {
	const n, count = api.MaxBlocks, api.MaxInstrs - api.MaxBlocks
	reg := func(place, phi int) int { return (place*7907+phi*13)%4999 + 90000 }
	var p ir.Program
	for i := range n {
		p.Blocks = append(p.Blocks, ir.Block{Label: i, Last: ir.Last{End: ir.Branch, A: 99999, Yes: n - 1, No: min(i+1, n-1)}})
	}
	var from []int
	for i := range n {
		from = append(from, i)
	}
	for k := range count {
		x := ir.Phi{Dst: 99992 + k%7, From: from}
		for i := range n {
			x.Args = append(x.Args, reg(i, k))
		}
		p.Blocks[n-1].Phis = append(p.Blocks[n-1].Phis, x)
	}
	may(t, p)
	s := Of(p)
	// From the last on back each has what those behind it have, and its own.
	all := listed(99999)
	for i := n - 1; i >= 0; i-- {
		own := regs{}
		for k := range count {
			own[reg(i, k)] = true
			if i < n-1 {
				all[reg(i, k)] = true
			}
		}
		if i == n-1 {
			own[99999] = true
			is(t, "P11.1: many phis: Out of the last", s.Out[i], own.sorted()...)
			is(t, "P11.1: many phis: In of the last", s.In[i], own.sorted()...)
			for r := range own {
				all[r] = true
			}
			continue
		}
		if s.Out[i].Len() != len(all) || s.In[i].Len() != len(all) {
			t.Fatalf("P11.1: many phis: %d: %d, %d, not %d", i, s.In[i].Len(), s.Out[i].Len(), len(all))
		}
		for r := range all {
			if !s.Out[i].Has(r) || !s.In[i].Has(r) {
				t.Fatalf("P11.1: many phis: %d hasn't %d", i, r)
			}
		}
	}
}

// P1: one phi with one entry again and again, from blocks that all have one label.
func TestSameEntries(t *testing.T) {
	const n = 20000
	p := ir.Program{Blocks: make([]ir.Block, n)}
	p.Blocks[0].Phis = []ir.Phi{{Dst: 1, From: make([]int, n), Args: make([]int, n)}}
	wrong(t, "same entries", p)
}
