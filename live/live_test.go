package live

import (
	"fmt"
	"math"
	"slices"
	"testing"

	"refinery/bag"
	"refinery/ir"
	"refinery/word"
)

func is(t *testing.T, what any, s bag.Set[int], want ...int) {
	t.Helper()
	if !slices.Equal(s.List(), want) {
		t.Errorf("%v: %v, not %v", what, s.List(), want)
	}
}

// P11.1: the chapter's example: ahead of %1 = add %2, %3 registers 2 and 3 are live.
func TestExample(t *testing.T) {
	x := ir.Instr{Kind: ir.Do, Op: word.Add, Dst: 1, A: 2, B: 3}
	is(t, "P11.1: Ahead of add", Ahead(x, bag.Set[int]{}), 2, 3)
	is(t, "P11.1: Ahead of add", Ahead(x, bag.Of(1)), 2, 3)
	is(t, "P11.1: Ahead of add", Ahead(x, bag.Of(0, 1, 4)), 0, 2, 3, 4)
	is(t, "P11.1: Ahead of add", Ahead(x, bag.Of(1, 2)), 2, 3)
}

// P11.1: Ahead of each kind: of those that set a register or none, that read none, one, two, or the one that they set.
func TestAhead(t *testing.T) {
	for _, c := range []struct {
		name string
		x    ir.Instr
		out  []int
		want []int
	}{
		{"const", ir.Instr{Kind: ir.Const, Dst: 1, N: 7}, []int{1, 2}, []int{2}},
		{"const, not live", ir.Instr{Kind: ir.Const, Dst: 1, N: 7}, []int{0, 2}, []int{0, 2}},
		{"const, nothing live", ir.Instr{Kind: ir.Const, Dst: 1}, nil, nil},
		{"const, that alone live", ir.Instr{Kind: ir.Const}, []int{0}, nil},
		{"copy", ir.Instr{Kind: ir.Copy, Dst: 1, A: 2}, []int{1}, []int{2}},
		{"copy, not live", ir.Instr{Kind: ir.Copy, Dst: 1, A: 2}, nil, []int{2}},
		{"copy to itself", ir.Instr{Kind: ir.Copy, Dst: 1, A: 1}, []int{1}, []int{1}},
		{"copy to itself, not live", ir.Instr{Kind: ir.Copy, Dst: 1, A: 1}, nil, []int{1}},
		{"do, the same twice", ir.Instr{Kind: ir.Do, Dst: 1, A: 2, B: 2}, []int{1, 3}, []int{2, 3}},
		{"do, sets its first", ir.Instr{Kind: ir.Do, Dst: 1, A: 1, B: 2}, []int{1}, []int{1, 2}},
		{"do, sets its second", ir.Instr{Kind: ir.Do, Dst: 2, A: 1, B: 2}, []int{2}, []int{1, 2}},
		{"do, sets both", ir.Instr{Kind: ir.Do, Dst: 1, A: 1, B: 1}, nil, []int{1}},
		{"do, falling", ir.Instr{Kind: ir.Do, Op: word.Div, Dst: 5, A: 9, B: 0}, []int{4, 5, 6}, []int{0, 4, 6, 9}},
		{"in", ir.Instr{Kind: ir.In, Dst: 3}, []int{2, 3, 4}, []int{2, 4}},
		{"out", ir.Instr{Kind: ir.Out, A: 3}, []int{0, 2}, []int{0, 2, 3}},
		{"out, live already", ir.Instr{Kind: ir.Out, A: 3}, []int{0, 3}, []int{0, 3}},
		{"load", ir.Instr{Kind: ir.Load, Dst: 3, Slot: 2}, []int{2, 3}, []int{2}},
		{"store", ir.Instr{Kind: ir.Store, A: 3, Slot: 2}, []int{0, 2}, []int{0, 2, 3}},
		{"get", ir.Instr{Kind: ir.Get, Dst: 3, A: 4}, []int{0, 3}, []int{0, 4}},
		{"get, sets what it reads", ir.Instr{Kind: ir.Get, Dst: 3, A: 3}, []int{3}, []int{3}},
		{"put", ir.Instr{Kind: ir.Put, A: 4, B: 3}, []int{0}, []int{0, 3, 4}},
		{"put, the same twice", ir.Instr{Kind: ir.Put, A: 4, B: 4}, nil, []int{4}},
		{"the greatest", ir.Instr{Kind: ir.Do, Dst: 99999, A: 99998, B: 0}, []int{0, 99999}, []int{0, 99998}},
		// What a kind doesn't have is neither set nor read.
		{"out, with all else", ir.Instr{Kind: ir.Out, Op: 1, Dst: 1, A: 2, B: 3, N: 4, Slot: 5}, []int{0, 1}, []int{0, 1, 2}},
		{"put, with all else", ir.Instr{Kind: ir.Put, Op: 1, Dst: 1, A: 2, B: 3, N: 4, Slot: 5}, []int{1}, []int{1, 2, 3}},
		{"const, with all else", ir.Instr{Kind: ir.Const, Op: 1, Dst: 1, A: 2, B: 3, N: 4, Slot: 5}, []int{1}, nil},
		{"copy, with all else", ir.Instr{Kind: ir.Copy, Op: 1, Dst: 1, A: 2, B: 3, N: 4, Slot: 5}, nil, []int{2}},
	} {
		is(t, "P11.1: Ahead: "+c.name, Ahead(c.x, bag.Of(c.out...)), c.want...)
	}
}

// P11.1: Ahead of all kinds, all of four registers, all sets of these.
func TestAheadAll(t *testing.T) {
	const n = 4
	for kind := range ir.Kinds {
		for k := range n * n * n << n {
			x := ir.Instr{Kind: kind, Dst: k % n, A: k / n % n, B: k / n / n % n}
			var out []int
			for r := range n {
				if k/n/n/n>>r&1 == 1 {
					out = append(out, r)
				}
			}
			want := listed(out...)
			if r, ok := setOf(x); ok {
				delete(want, r)
			}
			for _, r := range readsOf(x) {
				want[r] = true
			}
			is(t, fmt.Sprintf("P11.1: Ahead of %+v, behind it %v", x, out), Ahead(x, bag.Of(out...)), want.sorted()...)
		}
	}
}

// seen is what see was called with.
type seen struct {
	i      int
	x      ir.Instr
	behind bag.Set[int]
}

func watch(b ir.Block, out bag.Set[int]) (bag.Set[int], []seen) {
	var all []seen
	in := Each(b, out, func(i int, x ir.Instr, behind bag.Set[int]) { all = append(all, seen{i, x, behind}) })
	return in, all
}

// each: is Each, by each that it calls and by its answer, as the plain way has it?
func each(t *testing.T, what any, b ir.Block, out ...int) {
	t.Helper()
	behind := make([][]int, len(b.Instrs))
	want := plainEach(b, listed(out...), func(i int, live regs) { behind[i] = live.sorted() })
	in, all := watch(b, bag.Of(out...))
	is(t, fmt.Sprintf("P11.1: Each: %v: the answer", what), in, want.sorted()...)
	is(t, fmt.Sprintf("P11.1: Each: %v: the answer, see being nil", what), Each(b, bag.Of(out...), nil), want.sorted()...)
	if len(all) != len(b.Instrs) {
		t.Fatalf("P11.1: Each: %v: %d calls for %d instructions", what, len(all), len(b.Instrs))
	}
	for k, s := range all {
		i := len(b.Instrs) - 1 - k
		if s.i != i || s.x != b.Instrs[i] {
			t.Errorf("P11.1: Each: %v: call %d with %d, %+v", what, k, s.i, s.x)
		}
		is(t, fmt.Sprintf("P11.1: Each: %v: behind %d", what, i), s.behind, behind[i]...)
	}
}

// P11.1: Each of a block without instructions: what the end reads is live.
func TestEachEmpty(t *testing.T) {
	for _, c := range []struct {
		name string
		last ir.Last
		out  []int
		want []int
	}{
		{"jump", ir.Last{End: ir.Jump, Yes: 3}, []int{1, 5}, []int{1, 5}},
		{"jump, with all else", ir.Last{End: ir.Jump, A: 2, Yes: 3, No: 4}, []int{1}, []int{1}},
		{"branch", ir.Last{End: ir.Branch, A: 2, Yes: 3, No: 4}, []int{1, 5}, []int{1, 2, 5}},
		{"branch, live already", ir.Last{End: ir.Branch, A: 2, Yes: 3, No: 3}, []int{2}, []int{2}},
		{"return", ir.Last{End: ir.Return, A: 2}, nil, []int{2}},
		{"return 0", ir.Last{End: ir.Return}, []int{1}, []int{0, 1}},
		{"trap", ir.Last{End: ir.Trap}, nil, nil},
		{"trap, with all else", ir.Last{End: ir.Trap, A: 2, Yes: 3, No: 4}, []int{1, 5}, []int{1, 5}},
	} {
		b := ir.Block{Label: 8, Last: c.last}
		in, all := watch(b, bag.Of(c.out...))
		is(t, "P11.1: Each: "+c.name, in, c.want...)
		if len(all) != 0 {
			t.Errorf("P11.1: Each: %s: see was called: %v", c.name, all)
		}
		is(t, "P11.1: Each: "+c.name+", see being nil", Each(b, bag.Of(c.out...), nil), c.want...)
		b.Instrs = []ir.Instr{}
		each(t, c.name, b, c.out...)
	}
}

// P11.1: Each of a block with many: the last first, with places, and what is live behind each.
func TestEach(t *testing.T) {
	p := read(t, "@0:\n  %1 = in\n  %2 = 5\n  %3 = add %1, %2\n  out %3\n  %1 = sub %1, %3\n  store $4, %6\n  %9 = 1\n  br %1, @0, @0\n", nil)
	b := p.Blocks[0]
	in, all := watch(b, bag.Of(2, 8, 9))
	is(t, "P11.1: Each: the answer", in, 6, 8)
	behind := [][]int{
		{1, 6, 8},
		{1, 2, 6, 8},
		{1, 2, 3, 6, 8},
		{1, 2, 3, 6, 8},
		{1, 2, 6, 8},
		{1, 2, 8},
		{1, 2, 8, 9},
	}
	if len(all) != 7 {
		t.Fatalf("P11.1: Each: %d calls", len(all))
	}
	for k, s := range all {
		if s.i != 6-k || s.x != b.Instrs[6-k] {
			t.Errorf("P11.1: Each: call %d with %d, %+v", k, s.i, s.x)
		}
		is(t, fmt.Sprint("P11.1: Each: behind ", s.i), s.behind, behind[s.i]...)
	}
	each(t, "many", b, 2, 8, 9)
	each(t, "many, nothing behind", b)
}

// P11.1: Each of one instruction: what is live behind it has what the end reads.
func TestEachOne(t *testing.T) {
	b := ir.Block{Instrs: []ir.Instr{{Kind: ir.Copy, Dst: 1, A: 2}}, Last: ir.Last{End: ir.Return, A: 1}}
	in, all := watch(b, bag.Of(4))
	is(t, "P11.1: Each of one", in, 2, 4)
	if len(all) != 1 || all[0].i != 0 || all[0].x != b.Instrs[0] {
		t.Fatalf("P11.1: Each of one: %v", all)
	}
	is(t, "P11.1: Each of one: behind it", all[0].behind, 1, 4)
}

// P11.1: Each leaves phis alone: what is live at the first instruction is told.
func TestEachPhis(t *testing.T) {
	b := ir.Block{Label: 3, Phis: []ir.Phi{{Dst: 1, From: []int{3, 4}, Args: []int{5, 6}}, {Dst: 2}}, Instrs: []ir.Instr{{Kind: ir.Out, A: 1}}, Last: ir.Last{End: ir.Branch, A: 2, Yes: 3, No: 4}}
	in, all := watch(b, bag.Of(7))
	is(t, "P11.1: Each, with phis", in, 1, 2, 7)
	if len(all) != 1 {
		t.Errorf("P11.1: Each, with phis: %d calls", len(all))
	}
	b.Instrs = nil
	is(t, "P11.1: Each, with phis alone", Each(b, bag.Of(7), nil), 2, 7)
}

// P11.1: Each of any blocks.
func TestEachAny(t *testing.T) {
	for seed := range 3000 {
		roll := dice(uint64(seed) + 3)
		n := 1 + roll(12)
		b := ir.Block{Last: ir.Last{End: ir.End(roll(int(ir.Ends))), A: roll(n)}}
		for range roll(20) {
			b.Instrs = append(b.Instrs, anyInstr(roll, n))
		}
		var out []int
		for range roll(n + 1) {
			out = append(out, roll(n+3))
		}
		each(t, fmt.Sprint("any block, ", seed), b, out...)
		if t.Failed() {
			return
		}
	}
}

// R6: what see does to its set, to the block and to what was handed in changes neither the answer nor what it is called with later.
func TestEachSeeChanges(t *testing.T) {
	p := read(t, "@0:\n  %1 = in\n  out %5\n  %3 = add %1, %2\n  out %3\n  ret %4\n", nil)
	quiet, want := watch(p.Blocks[0], bag.Of(2, 3))
	b, out := p.Clone().Blocks[0], bag.Of(2, 3)
	var all []seen
	in := Each(b, out, func(i int, x ir.Instr, behind bag.Set[int]) {
		all = append(all, seen{i, x, behind.Clone()})
		for r := range 9 {
			behind.Drop(r)
			out.Drop(r)
		}
		for r := range 40 {
			behind.Add(50 - r)
			out.Add(50 - r)
		}
		for k := range b.Instrs {
			b.Instrs[k] = ir.Instr{Kind: ir.Put, A: 77, B: 78}
		}
	})
	is(t, "R6: Each, whose see changes all", in, quiet.List()...)
	if len(all) != len(want) {
		t.Fatalf("R6: Each, whose see changes all: %d calls", len(all))
	}
	for k, s := range all {
		if s.i != want[k].i || s.x != want[k].x {
			t.Errorf("R6: Each, whose see changes all: call %d with %d, %+v", k, s.i, s.x)
		}
		is(t, fmt.Sprint("R6: Each, whose see changes all: behind ", s.i), s.behind, want[k].behind.List()...)
	}
}

// R6: sets that see keeps are its own: changing one changes neither another one nor the answer.
func TestEachSeeKeeps(t *testing.T) {
	p := read(t, "@0:\n  trap\n", nil)
	b := p.Blocks[0]
	for range 6 {
		b.Instrs = append(b.Instrs, ir.Instr{Kind: ir.Store, A: 3})
	}
	in, all := watch(b, bag.Of(3, 4))
	for k := range all {
		all[k].behind.Drop(3)
		all[k].behind.Add(k + 5)
		for later := k + 1; later < len(all); later++ {
			is(t, fmt.Sprint("R6: a set that see keeps, ", k, later), all[later].behind, 3, 4)
		}
	}
	in.Drop(4)
	for k := range all {
		is(t, fmt.Sprint("R6: a set that see keeps, ", k), all[k].behind, 4, k+5)
	}
	is(t, "R6: the answer", in, 3)
}

// P11.1: see may itself call.
func TestEachWithin(t *testing.T) {
	p := read(t, "@0:\n  %1 = in\n  %2 = add %1, %1\n  ret %2\n", nil)
	b := p.Blocks[0]
	calls := 0
	in := Each(b, bag.Of(7), func(i int, x ir.Instr, behind bag.Set[int]) {
		is(t, "P11.1: Each within Each", Each(b, behind, func(int, ir.Instr, bag.Set[int]) { calls++ }), 7)
		Ahead(x, behind)
		Of(p)
	})
	is(t, "P11.1: Each, with Each within", in, 7)
	if calls != 4 {
		t.Errorf("P11.1: Each within Each: %d calls", calls)
	}
}

// R6: what is handed in is as it was, and what is answered is new memory.
func TestAheadMemory(t *testing.T) {
	for kind := range 256 {
		x := ir.Instr{Kind: ir.Kind(kind), Dst: 3, A: 4, B: 1}
		out := bag.Of(0, 3, 5, 9)
		out.Drop(9) // there is spare room behind
		ahead := Ahead(x, out)
		is(t, "R6: what was handed in to Ahead", out, 0, 3, 5)
		want := ahead.List()
		out.Drop(0)
		out.Add(7)
		out.Add(8)
		is(t, "R6: what Ahead answered", ahead, want...)
		for r := range 20 {
			ahead.Drop(r)
			ahead.Add(50 - r)
		}
		is(t, "R6: what was handed in to Ahead", out, 3, 5, 7, 8)
	}
}

// R6: likewise of Each, also of a block that does nothing.
func TestEachMemory(t *testing.T) {
	p := read(t, "@0:\n  %1 = in\n  out %5\n  ret %4\n@1:\n  trap\n@2:\n  ret %3\n", nil)
	before := p.Clone()
	for i, b := range p.Blocks {
		out := bag.Of(0, 1, 3, 5, 9)
		out.Drop(9)
		in, all := watch(b, out)
		is(t, "R6: what was handed in to Each", out, 0, 1, 3, 5)
		want := in.List()
		for _, s := range all {
			for r := range 20 {
				s.behind.Drop(r)
				s.behind.Add(50 - r)
			}
		}
		is(t, "R6: what was handed in to Each", out, 0, 1, 3, 5)
		is(t, fmt.Sprint("R6: what Each answered, ", i), in, want...)
		out.Drop(0)
		out.Add(7)
		is(t, fmt.Sprint("R6: what Each answered, ", i), in, want...)
		for r := range 20 {
			in.Drop(r)
			in.Add(50 - r)
		}
		is(t, "R6: what was handed in to Each", out, 1, 3, 5, 7)
	}
	if !ir.Same(p, before) {
		t.Errorf("R6: Each changed a block: %v", p)
	}
}

// P1: instructions of no kind, registers out of range.
func TestWrongInstr(t *testing.T) {
	for kind := int(ir.Kinds); kind < 256; kind++ {
		x := ir.Instr{Kind: ir.Kind(kind), Dst: 1, A: 2, B: 3}
		is(t, "P1: Ahead of no kind", Ahead(x, bag.Of(1, 4)), 1, 4)
		b := ir.Block{Instrs: []ir.Instr{x, x}, Last: ir.Last{End: ir.End(kind), A: 2}}
		in, all := watch(b, bag.Of(1, 4))
		is(t, "P1: Each of no kind", in, 1, 4)
		if len(all) != 2 || all[0].i != 1 || all[1].i != 0 {
			t.Errorf("P1: Each of no kind: %v", all)
		}
	}
	edges := []int{math.MinInt, math.MinInt + 1, -1, 0, 99999, 100000, math.MaxInt - 1, math.MaxInt}
	for kind := range 256 {
		for _, r := range edges {
			for _, s := range edges {
				x := ir.Instr{Kind: ir.Kind(kind), Op: word.Op(kind), Dst: r, A: s, B: r, Slot: s}
				b := ir.Block{Label: r, Instrs: []ir.Instr{x}, Last: ir.Last{End: ir.End(kind % 5), A: s, Yes: r, No: s}}
				each(t, fmt.Sprintf("%+v", b), b, edges...)
				each(t, fmt.Sprintf("%+v", b), b)
			}
		}
	}
}

// R7: zero values.
func TestZero(t *testing.T) {
	is(t, "R7: Ahead of a zero instruction", Ahead(ir.Instr{}, bag.Set[int]{}))
	is(t, "R7: Ahead of a zero instruction", Ahead(ir.Instr{}, bag.Of(0, 1)), 1)
	is(t, "R7: Each of a zero block", Each(ir.Block{}, bag.Set[int]{}, nil))
	is(t, "R7: Each of a zero block", Each(ir.Block{}, bag.Of(0, 1), nil), 0, 1)
	is(t, "R7: Each of zero instructions", Each(ir.Block{Instrs: make([]ir.Instr, 3)}, bag.Of(0, 1), nil), 1)
}
