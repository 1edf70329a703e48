package run

import (
	"fmt"
	"math"
	"slices"
	"testing"
	"time"

	"refinery/api"
	"refinery/ir"
	"refinery/word"
)

const least, greatest = math.MinInt64, math.MaxInt64

func jump(to int) ir.Last { return ir.Last{End: ir.Jump, Yes: to} }

func branch(r, yes, no int) ir.Last { return ir.Last{End: ir.Branch, A: r, Yes: yes, No: no} }

func ret(r int) ir.Last { return ir.Last{End: ir.Return, A: r} }

func phi(dst int, entries ...int) ir.Phi {
	x := ir.Phi{Dst: dst}
	for i := 0; i < len(entries); i += 2 {
		x.From, x.Args = append(x.From, entries[i]), append(x.Args, entries[i+1])
	}
	return x
}

func returned(n int64, steps int, trace ...int64) Outcome {
	return Outcome{Returned, n, trace, steps}
}

func trapped(steps int, trace ...int64) Outcome { return Outcome{Trapped, 0, trace, steps} }

func spent(steps int, trace ...int64) Outcome { return Outcome{Spent, 0, trace, steps} }

// does: a program that may be ends so, with enough fuel.
func does(t *testing.T, what any, p ir.Program, in []int64, want Outcome) {
	t.Helper()
	may(t, p)
	ends(t, what, Run(p, in, 10000), want)
}

// says: a text's program likewise.
func says(t *testing.T, text string, in []int64, want Outcome) {
	t.Helper()
	does(t, text, read(t, text), in, want)
}

// P13.1: the ends' numbers, and Most.
func TestNumbers(t *testing.T) {
	if Returned != 0 || Trapped != 1 || Spent != 2 || Ends != 3 || Most != 1048576 {
		t.Error("P13.1: numbers", Returned, Trapped, Spent, Ends, Most)
	}
}

// P13.1: the chapter's example.
func TestExample(t *testing.T) {
	says(t, "@0:\n  trap\n", nil, trapped(1))
	says(t, "@0:\n  trap\n", []int64{5, 6}, trapped(1))
}

// P13.1: each kind of instruction alone, and what is known behind it.
func TestKinds(t *testing.T) {
	says(t, "@0:\n  %3 = 5\n  ret %3\n", nil, returned(5, 2))
	says(t, "@0:\n  %0 = -9223372036854775808\n  ret %0\n", nil, returned(least, 2))
	says(t, "@0:\n  %0 = 9223372036854775807\n  ret %0\n", nil, returned(greatest, 2))
	says(t, "@0:\n  %1 = 7\n  %2 = %1\n  %1 = 8\n  ret %2\n", nil, returned(7, 4))
	says(t, "@0:\n  %1 = 7\n  %2 = %1\n  ret %1\n", nil, returned(7, 3))
	says(t, "@0:\n  %1 = 7\n  %1 = %1\n  ret %1\n", nil, returned(7, 3))
	says(t, "@0:\n  %1 = 7\n  %2 = 2\n  %3 = sub %1, %2\n  ret %3\n", nil, returned(5, 4))
	says(t, "@0:\n  %1 = 7\n  %2 = 2\n  %1 = sub %2, %1\n  ret %1\n", nil, returned(-5, 4))
	says(t, "@0:\n  %1 = in\n  ret %1\n", []int64{-4}, returned(-4, 2))
	says(t, "@0:\n  %1 = 7\n  out %1\n  ret %2\n", nil, returned(0, 3, 7))
	says(t, "@0:\n  %1 = 7\n  store $0, %1\n  %1 = 8\n  store $15, %1\n  %2 = load $0\n  %3 = load $15\n  out %2\n  out %3\n  ret %1\n", nil, returned(8, 9, 7, 8))
	says(t, "@0:\n  %1 = 7\n  store $4, %1\n  %1 = 8\n  %2 = load $4\n  %3 = load $4\n  %4 = add %2, %3\n  ret %4\n", nil, returned(14, 7))
	says(t, "@0:\n  %1 = 7\n  %2 = 9\n  put %1, %2\n  %2 = get %1\n  %3 = get %2\n  out %2\n  out %3\n  ret %1\n", nil, returned(7, 8, 9, 0))
	says(t, "@0:\n  %1 = 7\n  put %1, %1\n  %1 = get %1\n  ret %1\n", nil, returned(7, 4))
}

// P13.1: each end; a branch goes to Yes of all but 0.
func TestEnds(t *testing.T) {
	says(t, "@0:\n  ret %0\n", nil, returned(0, 1))
	says(t, "@0:\n  %1 = 3\n  jump @7\n@5:\n  ret %0\n@7:\n  ret %1\n", nil, returned(3, 3))
	says(t, "@9:\n  jump @8\n@7:\n  jump @6\n@8:\n  jump @7\n@6:\n  trap\n", nil, trapped(4))
	for n, want := range map[int64]int64{0: 20, 1: 10, -1: 10, 2: 10, least: 10, greatest: 10, 1 << 32: 10} {
		says(t, "@0:\n  %1 = in\n  %2 = 10\n  %3 = 20\n  br %1, @2, @1\n@1:\n  ret %3\n@2:\n  ret %2\n", []int64{n}, returned(want, 5))
		says(t, "@0:\n  %1 = in\n  br %1, @1, @1\n@1:\n  ret %1\n", []int64{n}, returned(n, 3))
	}
	says(t, "@0:\n  %1 = 1\n  trap\n@1:\n  ret %1\n", nil, trapped(2))
	for e, l := range []ir.Last{jump(0), branch(5, 0, 0), branch(5, 9, 0)} {
		p := ir.Program{Blocks: []ir.Block{{Last: l}, {Label: 9, Last: ret(0)}}}
		may(t, p)
		ends(t, fmt.Sprint("round for ever, ", e), Run(p, nil, 50), spent(50))
	}
}

// P13.1: registers, slots and memory that nobody set are 0, up to the last.
func TestUnset(t *testing.T) {
	for _, r := range []int{0, 1, 63, 64, 4000, 99999} {
		p := ir.Program{Blocks: []ir.Block{{Instrs: []ir.Instr{{Kind: ir.Out, A: r}, {Kind: ir.Do, Dst: 5, A: r, B: r}, {Kind: ir.Out, A: 5}}, Last: ret(r)}}}
		does(t, r, p, []int64{9}, returned(0, 4, 0, 0))
		p = ir.Program{Blocks: []ir.Block{{Instrs: []ir.Instr{{Dst: 99999 - r, N: 6}, {Kind: ir.Copy, Dst: r, A: 7}}, Last: ret(r)}}}
		does(t, r, p, nil, returned(0, 3))
	}
	var p ir.Program
	p.Blocks = []ir.Block{{Last: ret(1)}}
	b := &p.Blocks[0]
	for slot := range api.Slots {
		b.Instrs = append(b.Instrs, ir.Instr{Kind: ir.Load, Dst: 1, Slot: slot}, ir.Instr{Kind: ir.Out, A: 1}, ir.Instr{Dst: 1, N: 5})
	}
	for place := range api.Memory {
		b.Instrs = append(b.Instrs, ir.Instr{Dst: 2, N: int64(place)}, ir.Instr{Kind: ir.Get, Dst: 1, A: 2}, ir.Instr{Kind: ir.Out, A: 1}, ir.Instr{Dst: 1, N: 5})
	}
	does(t, "slots and memory", p, nil, returned(5, 3*16+4*64+1, make([]int64, 16+64)...))
	// What one run sets, another one doesn't find.
	first := read(t, "@0:\n  %1 = 5\n  store $3, %1\n  put %1, %1\n  ret %1\n")
	does(t, "set", first, nil, returned(5, 4))
	says(t, "@0:\n  out %1\n  %2 = load $3\n  out %2\n  %3 = 5\n  %2 = get %3\n  out %2\n  ret %1\n", nil, returned(0, 7, 0, 0, 0))
}

// P13.1: each slot and each place of memory is one of its own.
func TestEachPlace(t *testing.T) {
	var b ir.Block
	var want []int64
	for i := range api.Slots {
		b.Instrs = append(b.Instrs, ir.Instr{Dst: 1, N: int64(100 + i)}, ir.Instr{Kind: ir.Store, A: 1, Slot: i})
		want = append(want, int64(100+i))
	}
	for i := range api.Memory {
		b.Instrs = append(b.Instrs, ir.Instr{Dst: 1, N: int64(i)}, ir.Instr{Dst: 2, N: int64(200 + i)}, ir.Instr{Kind: ir.Put, A: 1, B: 2})
		want = append(want, int64(200+i))
	}
	for i := range api.Slots {
		b.Instrs = append(b.Instrs, ir.Instr{Kind: ir.Load, Dst: 1, Slot: i}, ir.Instr{Kind: ir.Out, A: 1})
	}
	for i := range api.Memory {
		b.Instrs = append(b.Instrs, ir.Instr{Dst: 1, N: int64(i)}, ir.Instr{Kind: ir.Get, Dst: 2, A: 1}, ir.Instr{Kind: ir.Out, A: 2})
	}
	b.Last = ret(1)
	does(t, "each place", ir.Program{Blocks: []ir.Block{b}}, nil, returned(63, len(b.Instrs)+1, want...))
}

// P13.1: Get and Put from 0 to 63; else Trapped: the step counts, nothing behind it is done.
func TestMemoryEdges(t *testing.T) {
	get := "@0:\n  %1 = in\n  out %1\n  %2 = get %1\n  out %2\n  ret %1\n"
	put := "@0:\n  %1 = in\n  out %1\n  put %1, %1\n  %2 = get %1\n  out %2\n  ret %1\n"
	for _, n := range []int64{0, 1, 31, 62, 63} {
		says(t, get, []int64{n}, returned(n, 5, n, 0))
		says(t, put, []int64{n}, returned(n, 6, n, n))
	}
	for _, n := range []int64{-1, 64, -64, -63, 65, 127, 128, 1 << 8, 1 << 16, 1 << 31, 1 << 32, 1<<32 + 5, 1 << 62, least, least + 5, greatest} {
		says(t, get, []int64{n}, trapped(3, n))
		says(t, put, []int64{n}, trapped(3, n))
	}
	// The place is A's, not B's.
	says(t, "@0:\n  %1 = 2\n  %2 = 64\n  put %1, %2\n  %3 = get %1\n  ret %3\n", nil, returned(64, 5))
	says(t, "@0:\n  %1 = 2\n  %2 = 64\n  put %2, %1\n  ret %1\n", nil, trapped(3))
}

// P13.1: ops with answers written out, and those that can't be done: Trapped, the step counts.
func TestOps(t *testing.T) {
	for _, c := range []struct {
		op         string
		a, b, want int64
	}{
		{"add", greatest, 1, least}, {"sub", 3, 5, -2}, {"mul", least, -1, least}, {"div", -7, 2, -3}, {"div", least, -1, least}, {"div", 0, 5, 0},
		{"rem", -7, 2, -1}, {"rem", least, -1, 0}, {"and", 12, 10, 8}, {"or", 12, 10, 14}, {"xor", 12, 10, 6}, {"shl", 1, 63, least}, {"shl", 1, 64, 1},
		{"shl", 1, -1, least}, {"shr", -8, 1, -4}, {"shr", -8, 65, -4}, {"eq", 4, 4, 1}, {"eq", 4, 5, 0}, {"lt", 4, 5, 1}, {"lt", 5, 4, 0}, {"lt", 4, 4, 0},
	} {
		says(t, "@0:\n  %1 = in\n  %2 = in\n  %3 = "+c.op+" %1, %2\n  ret %3\n", []int64{c.a, c.b}, returned(c.want, 4))
		says(t, "@0:\n  %1 = in\n  %2 = in\n  %2 = "+c.op+" %1, %2\n  out %1\n  ret %2\n", []int64{c.a, c.b}, returned(c.want, 5, c.a))
	}
	for o := range word.Ops {
		for _, n := range []int64{0, 1, -1, least, greatest} {
			p := read(t, "@0:\n  %1 = in\n  out %1\n  %3 = "+o.Name()+" %1, %2\n  out %1\n  %4 = 3\n  ret %4\n")
			if o == word.Div || o == word.Rem {
				does(t, o.Name(), p, []int64{n}, trapped(3, n))
			} else {
				does(t, o.Name(), p, []int64{n}, returned(3, 6, n, n))
			}
		}
	}
	says(t, "@0:\n  %1 = div %0, %0\n  ret %1\n", nil, trapped(1))
	says(t, "@0:\n  %1 = rem %0, %0\n  ret %1\n", nil, trapped(1))
}

// P13.1: In with inputs, with none, with fewer than there are Ins, with more.
func TestInputs(t *testing.T) {
	two := "@0:\n  %1 = in\n  out %1\n  %2 = in\n  out %2\n  ret %2\n"
	says(t, two, nil, trapped(1))
	says(t, two, []int64{}, trapped(1))
	says(t, two, []int64{8}, trapped(3, 8))
	says(t, two, []int64{8, 9}, returned(9, 5, 8, 9))
	says(t, two, []int64{8, 9, 10}, returned(9, 5, 8, 9))
	says(t, two, []int64{0, 0}, returned(0, 5, 0, 0))
	says(t, "@0:\n  %1 = in\n  %1 = in\n  %1 = in\n  ret %1\n", []int64{1, 2, 3}, returned(3, 4))
	// Round by round, till there are no more.
	says(t, "@0:\n  %1 = in\n  out %1\n  jump @0\n", []int64{5, 4, 3}, trapped(10, 5, 4, 3))
	says(t, "@0:\n  %1 = in\n  out %1\n  br %1, @0, @1\n@1:\n  ret %1\n", []int64{5, -4, 0, 3}, returned(0, 10, 5, -4, 0))
}

// P13.1: steps of rows and rounds; a phi is none.
func TestSteps(t *testing.T) {
	for n := range 50 {
		b := ir.Block{Instrs: make([]ir.Instr, n), Last: ret(0)}
		does(t, n, ir.Program{Blocks: []ir.Block{b}}, nil, returned(0, n+1))
		b.Last.End = ir.Trap
		does(t, n, ir.Program{Blocks: []ir.Block{b}}, nil, trapped(n+1))
		for i := range n {
			b.Phis = append(b.Phis, phi(i))
		}
		does(t, n, ir.Program{Blocks: []ir.Block{b}}, nil, trapped(n+1))
		round := read(t, "@0:\n  %1 = in\n  %2 = 1\n  jump @1\n@1:\n  br %1, @2, @3\n@2:\n  %1 = sub %1, %2\n  out %1\n  jump @1\n@3:\n  ret %2\n")
		var trace []int64
		for i := range n {
			trace = append(trace, int64(n-1-i))
		}
		does(t, n, round, []int64{int64(n)}, returned(1, 3+4*n+2, trace...))
	}
}

// P13.1: phis are set all at once: two that change places, three that go round, one that reads what another one sets.
func TestPhisAtOnce(t *testing.T) {
	begin := ir.Block{Label: 4, Instrs: []ir.Instr{{Dst: 1, N: 10}, {Dst: 2, N: 20}, {Dst: 3, N: 30}}, Last: jump(5)}
	put := []ir.Instr{{Kind: ir.Out, A: 1}, {Kind: ir.Out, A: 2}, {Kind: ir.Out, A: 3}}
	for what, c := range map[string]struct {
		phis []ir.Phi
		want []int64
	}{
		"two change places":             {[]ir.Phi{phi(1, 4, 2), phi(2, 4, 1)}, []int64{20, 10, 30}},
		"likewise, the other way round": {[]ir.Phi{phi(2, 4, 1), phi(1, 4, 2)}, []int64{20, 10, 30}},
		"three go round":                {[]ir.Phi{phi(1, 4, 2), phi(2, 4, 3), phi(3, 4, 1)}, []int64{20, 30, 10}},
		"three go round backwards":      {[]ir.Phi{phi(1, 4, 3), phi(2, 4, 1), phi(3, 4, 2)}, []int64{30, 10, 20}},
		"a row":                         {[]ir.Phi{phi(2, 4, 1), phi(3, 4, 2)}, []int64{10, 10, 20}},
		"a row backwards":               {[]ir.Phi{phi(3, 4, 2), phi(2, 4, 1)}, []int64{10, 10, 20}},
		"itself":                        {[]ir.Phi{phi(2, 4, 2), phi(1, 4, 2)}, []int64{20, 20, 30}},
		"one that they don't have":      {[]ir.Phi{phi(1), phi(2, 4, 1)}, []int64{0, 10, 30}},
		"likewise, behind":              {[]ir.Phi{phi(2, 4, 1), phi(1)}, []int64{0, 10, 30}},
	} {
		p := ir.Program{Blocks: []ir.Block{begin, {Label: 5, Phis: c.phis, Instrs: put, Last: ret(3)}}}
		does(t, what, p, nil, returned(c.want[2], 8, c.want...))
	}
	// Round by round they change places again.
	p := ir.Program{Blocks: []ir.Block{begin, {Label: 5, Phis: []ir.Phi{phi(1, 4, 1, 5, 2), phi(2, 4, 2, 5, 1)}, Instrs: put[:1], Last: jump(5)}}}
	may(t, p)
	ends(t, "change places in each round", Run(p, nil, 14), spent(14, 10, 20, 10, 20, 10))
}

// P13.1: a phi's register hangs on the block one comes from, and is 0 of a way that it doesn't have.
func TestPhisByWay(t *testing.T) {
	for n, want := range map[int64]int64{3: 10, 2: 0, 1: 30, 0: 40} {
		p := ir.Program{Blocks: []ir.Block{
			{Label: 50, Instrs: []ir.Instr{{Kind: ir.In, Dst: 0}, {Dst: 1, N: 10}, {Dst: 2, N: 20}, {Dst: 3, N: 30}, {Dst: 4, N: 40}, {Dst: 5, N: 1}, {Dst: 6, N: 99}}, Last: branch(0, 40, 8)},
			{Label: 40, Instrs: []ir.Instr{{Kind: ir.Do, Op: word.Sub, Dst: 0, A: 0, B: 5}}, Last: branch(0, 30, 7)},
			{Label: 30, Instrs: []ir.Instr{{Kind: ir.Do, Op: word.Sub, Dst: 0, A: 0, B: 5}}, Last: branch(0, 9, 20)},
			{Label: 9, Last: jump(60)},
			{Label: 8, Last: jump(60)},
			{Label: 7, Last: jump(60)},
			{Label: 20, Last: jump(60)},
			{Label: 60, Phis: []ir.Phi{phi(6, 7, 3, 8, 4, 9, 1, 30, 2)}, Last: ret(6)},
		}}
		may(t, p)
		o := Run(p, []int64{n}, 100)
		if o.End != Returned || o.Value != want {
			t.Errorf("P13.1: by the way %d: %s, not %d", n, brief(o), want)
		}
	}
	// Both sides of a branch go to one block: one comes from the same block either way.
	for _, n := range []int64{0, 1} {
		p := ir.Program{Blocks: []ir.Block{
			{Label: 2, Instrs: []ir.Instr{{Kind: ir.In, Dst: 1}, {Dst: 2, N: 7}}, Last: branch(1, 1, 1)},
			{Label: 1, Phis: []ir.Phi{phi(3, 2, 2)}, Last: ret(3)},
		}}
		does(t, n, p, []int64{n}, returned(7, 4))
	}
	// A way back to the block itself, and the way in.
	p := ir.Program{Blocks: []ir.Block{
		{Label: 3, Instrs: []ir.Instr{{Dst: 1, N: 4}, {Dst: 2, N: 1}}, Last: jump(1)},
		{Label: 1, Phis: []ir.Phi{phi(5, 1, 6, 3, 1), phi(7, 3, 1), phi(8, 1, 1)}, Instrs: []ir.Instr{{Kind: ir.Out, A: 5}, {Kind: ir.Out, A: 7}, {Kind: ir.Out, A: 8}, {Kind: ir.Do, Op: word.Sub, Dst: 6, A: 5, B: 2}}, Last: branch(6, 1, 0)},
		{Label: 0, Last: ret(6)},
	}}
	does(t, "down to 0", p, nil, returned(0, 3+4*5+1, 4, 4, 0, 3, 0, 4, 2, 0, 4, 1, 0, 4))
}

// P13.1: phis in the first block set 0 at the beginning, and by the way when one comes back; a phi that has the first block's own label, too.
func TestPhisInFirst(t *testing.T) {
	p := ir.Program{Blocks: []ir.Block{
		{Label: 6, Phis: []ir.Phi{phi(1, 2, 3, 6, 4), phi(9, 6, 1)}, Instrs: []ir.Instr{{Kind: ir.Out, A: 1}, {Kind: ir.Out, A: 9}, {Dst: 3, N: 33}, {Dst: 4, N: 44}, {Kind: ir.In, Dst: 5}}, Last: branch(5, 6, 2)},
		{Label: 2, Last: jump(6)},
	}}
	does(t, "the first", p, []int64{1, 0, 1, 1}, trapped(5+1+5+2+5+1+5+1+5, 0, 0, 44, 0, 33, 0, 44, 33, 44, 44))
	does(t, "the first, no inputs", p, nil, trapped(5, 0, 0))
	// Another block may have the label 0, and a phi may have that: one doesn't come from it at the beginning.
	p = ir.Program{Blocks: []ir.Block{
		{Label: 1, Phis: []ir.Phi{phi(1, 0, 2, 1, 2)}, Instrs: []ir.Instr{{Kind: ir.Out, A: 1}, {Dst: 2, N: 5}, {Kind: ir.Out, A: 2}, {Kind: ir.In, Dst: 3}}, Last: jump(0)},
		{Label: 0, Last: jump(1)},
	}}
	does(t, "the label 0", p, []int64{8}, trapped(10, 0, 5, 5, 5))
}

// P13.1: registers that only phis set or read, up to the last one, and how many phis there may be.
func TestPhisMany(t *testing.T) {
	p := ir.Program{Blocks: []ir.Block{
		{Instrs: []ir.Instr{{Dst: 1, N: 5}}, Last: jump(1)},
		{Label: 1, Phis: []ir.Phi{phi(99999, 0, 1, 2, 1), phi(2, 0, 99998), phi(3, 2, 99999)}, Last: branch(2, 1, 2)},
		{Label: 2, Last: jump(3)},
		{Label: 3, Phis: []ir.Phi{phi(4, 2, 99999)}, Last: ret(4)},
	}}
	does(t, "the last register", p, nil, returned(5, 5))

	const n = 3000
	p = ir.Program{Blocks: make([]ir.Block, 3)}
	for i := range n {
		if i < 900 {
			p.Blocks[0].Instrs = append(p.Blocks[0].Instrs, ir.Instr{Dst: i, N: int64(1000 + i)})
		}
		p.Blocks[1].Phis = append(p.Blocks[1].Phis, phi(i, 0, i, 1, (i+1)%n))
	}
	p.Blocks[0].Last = jump(1)
	p.Blocks[1].Label, p.Blocks[1].Last = 1, branch(0, 1, 2)
	p.Blocks[2] = ir.Block{Label: 2, Phis: []ir.Phi{phi(0, 1, n-1)}, Last: ret(0)}
	// 900 rounds bring a 0 to register 0; what stood last ahead of it then is in the last register.
	does(t, "many phis", p, nil, returned(1899, 900+1+901+1))
}

// P13.1: fuel: none, less than none, just enough, one too few, more than enough.
func TestFuel(t *testing.T) {
	p := read(t, "@0:\n  %1 = 7\n  out %1\n  out %1\n  ret %1\n")
	steps := []Outcome{spent(0), spent(1), spent(2, 7), spent(3, 7, 7), returned(7, 4, 7, 7)}
	for fuel, want := range map[int]Outcome{math.MinInt: steps[0], -Most: steps[0], -1: steps[0], 0: steps[0], 1: steps[1], 2: steps[2], 3: steps[3], 4: steps[4], 5: steps[4], 100: steps[4], Most: steps[4], Most + 1: steps[4], 1 << 32: steps[4], math.MaxInt: steps[4]} {
		ends(t, fmt.Sprint("fuel ", fuel), Run(p, nil, fuel), want)
	}
	for what, c := range map[string]struct {
		text string
		want Outcome
	}{
		"a trap":     {"@0:\n  out %1\n  trap\n", trapped(2, 0)},
		"an op":      {"@0:\n  out %1\n  %1 = div %1, %1\n  ret %1\n", trapped(2, 0)},
		"no input":   {"@0:\n  out %1\n  %1 = in\n  ret %1\n", trapped(2, 0)},
		"a jump":     {"@0:\n  jump @1\n@1:\n  ret %1\n", returned(0, 2)},
		"a branch":   {"@0:\n  br %1, @0, @1\n@1:\n  ret %1\n", returned(0, 2)},
		"no more":    {"@0:\n  ret %1\n", returned(0, 1)},
		"only trap":  {"@0:\n  trap\n", trapped(1)},
		"bad memory": {"@0:\n  %1 = -1\n  %1 = get %1\n  ret %1\n", trapped(2)},
	} {
		p := read(t, c.text)
		ends(t, what+", just enough", Run(p, nil, c.want.Steps), c.want)
		o := spent(c.want.Steps-1, c.want.Trace...)
		ends(t, what+", one too few", Run(p, nil, c.want.Steps-1), o)
	}
}

// P13.1: rounds for ever end at fuel, or at Most, and all that was put out is there.
func TestForEver(t *testing.T) {
	p := read(t, "@0:\n  jump @0\n")
	for fuel, steps := range map[int]int{0: 0, 1: 1, 1000: 1000, Most - 1: Most - 1, Most: Most, Most + 1: Most, 2 * Most: Most, math.MaxInt: Most} {
		ends(t, fmt.Sprint("a jump for ever, fuel ", fuel), Run(p, nil, fuel), spent(steps))
	}
	p = read(t, "@0:\n  %1 = 1\n  jump @1\n@1:\n  %2 = add %2, %1\n  out %2\n  br %1, @1, @0\n")
	o := Run(p, nil, math.MaxInt)
	want := spent(Most)
	for i := range (Most - 2 + 1) / 3 {
		want.Trace = append(want.Trace, int64(i+1))
	}
	ends(t, "numbers for ever", o, want)
}

// P13.1: what takes just as many steps as Most returns; with one more it is Spent.
func TestMost(t *testing.T) {
	// Behind 4 steps each round takes 2, and the last ones are k and the return.
	text := "@0:\n  %1 = in\n  %2 = 1\n  %3 = 0\n  jump @1\n@1:\n  %1 = sub %1, %2\n  br %1, @1, @2\n@2:\n"
	for more := range 4 {
		line := ""
		for range more {
			line += "  out %2\n"
		}
		p := read(t, text+line+"  ret %2\n")
		trace := slices.Repeat([]int64{1}, more)
		rounds := int64(Most-4-2) / 2
		if more <= 1 {
			ends(t, fmt.Sprint("Most, ", more), Run(p, []int64{rounds}, math.MaxInt), returned(1, Most-1+more, trace...))
		} else {
			ends(t, fmt.Sprint("Most, ", more), Run(p, []int64{rounds}, math.MaxInt), spent(Most, trace[:2]...))
		}
	}
}

// P1, P13.1: as many phis as may be, of which each has all labels, in as many rounds as may be: in time.
func TestManyRounds(t *testing.T) {
	var p ir.Program
	for i := range api.MaxBlocks {
		p.Blocks = append(p.Blocks, ir.Block{Label: i, Last: jump((i + 7) % api.MaxBlocks)})
	}
	for i := range api.MaxInstrs - api.MaxBlocks {
		x := ir.Phi{Dst: i * 27}
		for from := range api.MaxBlocks {
			x.From = append(x.From, from)
			x.Args = append(x.Args, (i+from)%3600*27)
		}
		b := &p.Blocks[i%api.MaxBlocks]
		b.Phis = append(b.Phis, x)
	}
	may(t, p)
	begin := time.Now()
	ends(t, "phis in all blocks", Run(p, nil, math.MaxInt), spent(Most))
	all := p.Blocks[0]
	for _, b := range p.Blocks[1:] {
		all.Phis = append(all.Phis, b.Phis[:1]...)
	}
	all.Last = jump(0)
	p.Blocks[0] = all
	for i := range p.Blocks[1:] {
		p.Blocks[i+1].Phis = nil
	}
	may(t, p)
	ends(t, "phis in one block", Run(p, nil, math.MaxInt), spent(Most))
	if d := time.Since(begin); d > time.Minute {
		t.Errorf("P1: rounds for ever took %v", d)
	}
}

// P13.1: what was put out ahead of a trap, or of being Spent, is there, in order; Value is 0 then.
func TestTraceAhead(t *testing.T) {
	head := "@0:\n  %1 = 3\n  %2 = -4\n  out %2\n  out %1\n  out %2\n  %0 = 9\n"
	for what, c := range map[string]struct {
		tail  string
		steps int
	}{
		"trap": {"  trap\n", 7},
		"div":  {"  %1 = div %1, %3\n  out %1\n  ret %1\n", 7},
		"in":   {"  %1 = in\n  out %1\n  ret %1\n", 7},
		"get":  {"  %1 = get %2\n  out %1\n  ret %1\n", 7},
		"put":  {"  put %2, %1\n  out %1\n  ret %1\n", 7},
		"far":  {"  jump @5\n@5:\n  trap\n", 8},
	} {
		o := Run(read(t, head+c.tail), nil, 100)
		ends(t, what, o, trapped(c.steps, -4, 3, -4))
	}
	ends(t, "spent", Run(read(t, head+"  jump @1\n@1:\n  jump @1\n"), nil, 30), spent(30, -4, 3, -4))
	ends(t, "spent at once", Run(read(t, head+"  ret %0\n"), nil, 6), spent(6, -4, 3, -4))
	ends(t, "returned", Run(read(t, head+"  ret %0\n"), nil, 7), returned(9, 7, -4, 3, -4))
}

// P13.1: Same looks at End, Value and Trace, not at Steps.
func TestSame(t *testing.T) {
	same := func(a, b Outcome, want bool) {
		t.Helper()
		if Same(a, b) != want || Same(b, a) != want {
			t.Errorf("P13.1: Same: %v, %v: not %v", a, b, want)
		}
	}
	base := func() Outcome { return Outcome{Trapped, 5, []int64{1, 2}, 7} }
	same(base(), base(), true)
	same(Outcome{}, Outcome{}, true)
	for _, steps := range []int{0, 8, -1, math.MaxInt, math.MinInt} {
		o := base()
		o.Steps = steps
		same(base(), o, true)
	}
	for _, e := range []End{Returned, Spent, Ends, 255} {
		o := base()
		o.End = e
		same(base(), o, false)
		same(o, o, true)
	}
	for _, n := range []int64{0, 4, -5, least, greatest, 5 + 1<<32} {
		for e := range Ends + 1 {
			a, b := base(), base()
			a.End, b.End, b.Value = e, e, n
			same(a, b, false)
		}
	}
	for _, l := range [][]int64{nil, {}, {1}, {2}, {1, 3}, {2, 1}, {1, 2, 2}, {1, 2, 0}, {0, 1, 2}, {2, 2}} {
		o := base()
		o.Trace = l
		same(base(), o, false)
		same(o, o, true)
	}
	same(Outcome{Trace: nil}, Outcome{Trace: []int64{}}, true)
	same(Outcome{Trace: make([]int64, 2, 9)}, Outcome{Trace: make([]int64, 2)}, true)
	same(Outcome{Trace: nil}, Outcome{Trace: []int64{0}}, false)
	p := read(t, "@0:\n  out %1\n  ret %1\n")
	q := read(t, "@0:\n  jump @1\n@1:\n  out %2\n  %5 = 3\n  ret %2\n")
	same(Run(p, nil, 100), Run(q, nil, 100), true)
	same(Run(p, nil, 100), Run(q, nil, 3), false)
	same(Run(p, nil, 1), Run(q, nil, 2), true)
	same(Run(p, nil, 1), Run(q, nil, 1), false)
}
