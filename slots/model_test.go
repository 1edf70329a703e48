package slots

import (
	"fmt"
	"slices"
	"testing"

	"refinery/api"
	"refinery/ir"
	"refinery/run"
	"refinery/sure"
	"refinery/word"
)

// plainUsed: P15.1's words, slot by slot.
func plainUsed(p ir.Program) (used [api.Slots]bool) {
	for s := range api.Slots {
		for _, b := range p.Blocks {
			for _, x := range b.Instrs {
				used[s] = used[s] || x == load(x.Dst, s) || x == store(s, x.A)
			}
		}
	}
	return used
}

// plainRegs: one above the greatest register, looked for in all that sets or reads one.
func plainRegs(p ir.Program) int {
	n := 0
	for _, b := range p.Blocks {
		for _, x := range b.Phis {
			n = max(n, x.Dst+1)
			for _, r := range x.Args {
				n = max(n, r+1)
			}
		}
		for _, x := range b.Instrs {
			// Of one that may be, what it doesn't have is 0: that is no greater than a register it has.
			n = max(n, x.Dst+1, x.A+1, x.B+1)
		}
		if b.Last.End == ir.Branch || b.Last.End == ir.Return {
			n = max(n, b.Last.A+1)
		}
	}
	return n
}

// plainLift: P15.1's words, slot by slot, of a program that may be.
func plainLift(p ir.Program) ir.Program {
	q := p.Clone()
	first, next, back := p.Blocks[0].Label, 0, false
	for _, b := range p.Blocks {
		next = max(next, b.Label+1)
		back = back || b.Last.End == ir.Jump && b.Last.Yes == first || b.Last.End == ir.Branch && (b.Last.Yes == first || b.Last.No == first)
	}
	if back {
		q.Blocks = append([]ir.Block{block(next, jump(first))}, q.Blocks...)
	}
	var begin []ir.Instr
	for s := range api.Slots {
		r := plainRegs(p) + s
		if plainUsed(p)[s] {
			begin = append(begin, number(r, 0))
		}
		for _, b := range q.Blocks {
			for i, x := range b.Instrs {
				if x == load(x.Dst, s) {
					b.Instrs[i] = copied(x.Dst, r)
				} else if x == store(s, x.A) {
					b.Instrs[i] = copied(r, x.A)
				}
			}
		}
	}
	q.Blocks[0].Instrs = append(begin, q.Blocks[0].Instrs...)
	return q
}

// holds: both calls against the plain ones; what is lifted may be, has no Load and no Store, and nobody comes back to where its numbers stand.
func holds(t *testing.T, what any, p ir.Program) ir.Program {
	t.Helper()
	if used := Used(p); used != plainUsed(p) {
		t.Errorf("P15.1: Used: %v: %v", what, used)
	}
	lifts(t, what, p, plainLift(p))
	q := Lift(p)
	may(t, what, q)
	for _, b := range q.Blocks {
		for _, x := range b.Instrs {
			if x.Kind == ir.Load || x.Kind == ir.Store {
				t.Errorf("P15.2: %v: %+v is left", what, x)
			}
		}
		if slices.Contains(b.Last.Labels(), q.Blocks[0].Label) {
			t.Errorf("P15.1: %v: %d goes on at the first", what, b.Label)
		}
	}
	if q.Plain() != p.Plain() {
		t.Errorf("P15.1: %v: plain: %v", what, q.Plain())
	}
	return q
}

const fuel = 100

// acts: with these inputs q does what p did; and P3: within as many steps as it says, both ways; in as many as p, but for those of the numbers and of the block ahead.
func acts(t *testing.T, what any, p, q ir.Program, in []int64) run.Outcome {
	t.Helper()
	o, back := run.Run(p, in, fuel), run.Run(p, in, (fuel+1)*(p.Count()+1))
	r, on := run.Run(q, in, fuel), run.Run(q, in, (fuel+1)*(q.Count()+1))
	// What is spent in the one may end in the other: each has as much as it may need for what the other one ends with.
	if o.End != run.Spent {
		if !run.Same(o, on) || on.Steps > (o.Steps+1)*(q.Count()+1) {
			t.Errorf("P3, P15.2: %v, inputs %v: %+v, not %+v", what, in, on, o)
		}
		if on.Steps != o.Steps+q.Count()-p.Count() {
			t.Errorf("P15.1: %v, inputs %v: %d steps, not %d", what, in, on.Steps, o.Steps+q.Count()-p.Count())
		}
	}
	if r.End != run.Spent && (!run.Same(r, back) || back.Steps > (r.Steps+1)*(p.Count()+1)) {
		t.Errorf("P3, P15.2: %v, inputs %v: %+v, though it was %+v", what, in, r, back)
	}
	return o
}

// rows: all rows of up to n of these instructions.
func rows(l []ir.Instr, n int) [][]ir.Instr {
	all := [][]ir.Instr{nil}
	for from := 0; n > 0; n-- {
		to := len(all)
		for _, row := range all[from:to] {
			for _, x := range l {
				all = append(all, append(slices.Clone(row), x))
			}
		}
		from = to
	}
	return all
}

func few() []ir.Instr {
	return []ir.Instr{load(0, 0), load(1, 3), store(0, 0), store(3, 0), store(3, 1), {Kind: ir.In}, {Kind: ir.Out}, {Kind: ir.Out, A: 1}, number(1, 7), {Kind: ir.Do, Op: word.Add, A: 0, B: 1}}
}

// P15.1, P15.2, P3: all rows of up to three of few instructions in one block that returns, or comes back.
func TestAllRows(t *testing.T) {
	var met [run.Ends]int
	for _, row := range rows(few(), 3) {
		for _, l := range []ir.Last{ret(0), ret(1), branch(1, 4, 9), jump(4)} {
			p := program(block(4, l, row...), block(9, ret(0), ir.Instr{Kind: ir.Out, A: 1}))
			q := holds(t, p, p)
			for _, in := range [][]int64{nil, {5}, {0, -3, 2, 1}} {
				met[acts(t, p, p, q, in).End]++
			}
			if t.Failed() {
				return
			}
		}
	}
	if slices.Min(met[:]) < 500 {
		t.Errorf("all rows: ends %v", met)
	}
}

// P15.1, P15.2, P3: all ends of three blocks, each of which counts in a slot how often it was come to, and puts that out.
func TestAllEnds(t *testing.T) {
	labels := []int{40, 3, 17}
	ends := []ir.Last{ret(1), trap()}
	for _, yes := range labels {
		ends = append(ends, jump(yes))
		for _, no := range labels {
			ends = append(ends, branch(1, yes, no))
		}
	}
	var p ir.Program
	for i, label := range labels {
		s := []int{0, 7, 15}[i]
		p.Blocks = append(p.Blocks, block(label, trap(), number(2, 1), load(1, s), ir.Instr{Kind: ir.Do, Op: word.Add, Dst: 1, A: 1, B: 2}, store(s, 1), ir.Instr{Kind: ir.Out, A: 1}, ir.Instr{Kind: ir.In, Dst: 1}))
	}
	var met [run.Ends]int
	for n := range len(ends) * len(ends) * len(ends) {
		for i := range labels {
			p.Blocks[i].Last = ends[n%len(ends)]
			n /= len(ends)
		}
		q := holds(t, p, p)
		for bits := range 16 {
			met[acts(t, p, p, q, []int64{int64(bits & 1), int64(bits & 2), int64(bits & 4), int64(-bits & 8)}).End]++
		}
		if t.Failed() {
			return
		}
	}
	if met[run.Returned] < 1000 || met[run.Trapped] < 1000 {
		t.Errorf("all ends: %v", met)
	}
}

// dice: a row of numbers that is the same each time.
func dice(seed uint64) func(n int) int {
	return func(n int) int {
		seed = seed*6364136223846793005 + 1442695040888963407
		return int(seed>>33) % n
	}
}

func anyInstr(roll func(int) int, registers, slots int) ir.Instr {
	x := ir.Instr{Kind: ir.Kind(roll(int(ir.Kinds))), Op: word.Op(roll(int(word.Ops))), Dst: roll(registers), A: roll(registers), B: roll(registers), N: int64(roll(5) - 1), Slot: roll(slots)}
	if x.Kind == ir.Do && x.Op.Traps() && roll(3) > 0 {
		x.Op = word.Sub
	}
	if x.Kind >= ir.Get && roll(3) > 0 {
		x.Kind = ir.Load + ir.Kind(roll(2))
	}
	return x.Only()
}

// shuffled: n labels that lie apart, in any order.
func shuffled(roll func(int) int, n int) []int {
	var l []int
	for i := range n {
		l = append(l, i*3+roll(3))
	}
	for i := range l {
		k := i + roll(n-i)
		l[i], l[k] = l[k], l[i]
	}
	return l
}

// anyProgram: any plain program that may be, of n blocks.
func anyProgram(roll func(int) int, n, registers, slots int) ir.Program {
	labels := shuffled(roll, n)
	var p ir.Program
	for _, label := range labels {
		b := block(label, ir.Last{End: ir.End(roll(int(ir.Ends))), A: roll(registers), Yes: labels[roll(n)], No: labels[roll(n)]})
		for range roll(6) {
			b.Instrs = append(b.Instrs, anyInstr(roll, registers, slots))
		}
		if b.Last.End >= ir.Return && roll(3) > 0 {
			b.Last.End = ir.Branch
		}
		b.Last = b.Last.Only()
		p.Blocks = append(p.Blocks, b)
	}
	return p
}

func anyInputs(roll func(int) int) []int64 {
	var in []int64
	for range roll(8) {
		in = append(in, int64(roll(5)-1))
	}
	return in
}

// P15.1, P15.2, P3: any plain programs, held against the chapter's words, and run.
func TestAny(t *testing.T) {
	var met [run.Ends]int
	put, used, values, traces := 0, 0, 0, 0
	for seed := range 10000 {
		roll := dice(uint64(seed) + 31)
		p := anyProgram(roll, 1+roll(8), 1+roll(5), 1+roll(16))
		what := fmt.Sprintf("any program, %d: %+v", seed, p)
		q := holds(t, what, p)
		for range 3 {
			o := acts(t, what, p, q, anyInputs(roll))
			met[o.End]++
			if o.Value != 0 {
				values++
			}
			if len(o.Trace) > 0 {
				traces++
			}
		}
		if t.Failed() {
			return
		}
		put += len(q.Blocks) - len(p.Blocks)
		if Used(p) != ([api.Slots]bool{}) {
			used++
		}
	}
	if slices.Min(append(met[:], put, used, values, traces)) < 500 {
		t.Errorf("any programs: ends %v, %d with a block put in, %d with slots, %d values, %d traces", met, put, used, values, traces)
	}
}

// P3, P4: sure programs stay sure, and do what they did.
func TestSure(t *testing.T) {
	count, used := 0, 0
	for seed := range 8000 {
		roll := dice(uint64(seed) + 9)
		registers := 1 + roll(4)
		p := anyProgram(roll, 1+roll(8), registers, 1+roll(16))
		for r := range registers {
			if seed%3 > 0 {
				p.Blocks[0].Instrs = slices.Insert(p.Blocks[0].Instrs, 0, number(r, int64(roll(3))))
			}
		}
		if sure.Check(p) != api.OK {
			continue
		}
		what := fmt.Sprintf("a sure program, %d: %+v", seed, p)
		q := Lift(p)
		if err := sure.Check(q); err != api.OK {
			t.Errorf("P4: %s: error %d", what, err)
		}
		acts(t, what, p, q, anyInputs(roll))
		if t.Failed() {
			return
		}
		count++
		if Used(p) != ([api.Slots]bool{}) {
			used++
		}
	}
	if count < 3000 || used < 3000 {
		t.Errorf("only %d sure programs, %d with slots", count, used)
	}
}

// P15.2, P4: a slot that is loaded in a round ahead of being stored is 0 in the first, and what was stored in the next.
func TestRounds(t *testing.T) {
	p := read(t, "@0:\n%1 = load $5\nout %1\n%2 = in\n%1 = add %1, %2\nstore $5, %1\nbr %2, @0, @1\n@1:\n%1 = load $5\nret %1")
	q := holds(t, "rounds", p)
	if err := sure.Check(q); err != api.OK {
		t.Errorf("P4: error %d", err)
	}
	o := run.Run(q, []int64{4, 3, -9, 0}, fuel)
	if want := []int64{0, 4, 7, -2}; o.End != run.Returned || o.Value != -2 || !slices.Equal(o.Trace, want) {
		t.Errorf("P15.2: %+v", o)
	}
	acts(t, "rounds", p, q, []int64{4, 3, -9, 0})
	acts(t, "rounds", p, q, []int64{4, 3})
}
