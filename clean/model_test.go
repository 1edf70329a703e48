package clean

import (
	"fmt"
	"slices"
	"testing"

	"refinery/api"
	"refinery/ir"
	"refinery/run"
	"refinery/sure"
	"refinery/word"
)

// goesOn: does an end go on at a label?
func goesOn(l ir.Last, label int) bool {
	return l.End == ir.Jump && l.Yes == label || l.End == ir.Branch && (l.Yes == label || l.No == label)
}

// ahead: the labels of the blocks that go on at a label.
func ahead(p ir.Program, label int) []int {
	var l []int
	for _, b := range p.Blocks {
		if goesOn(b.Last, label) {
			l = append(l, b.Label)
		}
	}
	return l
}

// plainWays, and those below: P14.1's and P14.2's own words, one look after the other, of programs that may be.
func plainWays(p ir.Program) ir.Program {
	q := p.Clone()
	for i, b := range p.Blocks {
		for j, x := range b.Phis {
			y := ir.Phi{Dst: x.Dst}
			for k, label := range x.From {
				if slices.Contains(ahead(p, b.Label), label) {
					y.From = append(y.From, label)
					y.Args = append(y.Args, x.Args[k])
				}
			}
			q.Blocks[i].Phis[j] = y
		}
	}
	return q
}

func plainReached(p ir.Program) ir.Program {
	met := []int{p.Blocks[0].Label}
	for range p.Blocks {
		for _, b := range p.Blocks {
			for _, label := range ahead(p, b.Label) {
				if slices.Contains(met, label) && !slices.Contains(met, b.Label) {
					met = append(met, b.Label)
				}
			}
		}
	}
	var q ir.Program
	for _, b := range p.Blocks {
		if slices.Contains(met, b.Label) {
			q.Blocks = append(q.Blocks, b)
		}
	}
	return plainWays(q)
}

func plainFront(p ir.Program) ir.Program {
	q := p.Clone()
	first := p.Blocks[0].Label
	if len(ahead(p, first)) == 0 {
		return q
	}
	return ir.Program{Blocks: append([]ir.Block{bare(plainLabel(p), jump(first))}, q.Blocks...)}
}

func plainLabel(p ir.Program) int {
	labels := []int{-1}
	for _, b := range p.Blocks {
		labels = append(labels, b.Label)
	}
	return slices.Max(labels) + 1
}

// plainEdges: way by way, each in the program as it is so far.
func plainEdges(p ir.Program) ir.Program {
	q := p.Clone()
	for i := range p.Blocks {
		l := p.Blocks[i].Last
		if l.End != ir.Branch || l.Yes == l.No {
			continue
		}
		if len(ahead(q, l.Yes)) > 1 {
			label := plainLabel(q)
			q.Blocks = append(q.Blocks, bare(label, jump(l.Yes)))
			q.Blocks[i].Last.Yes = label
			plainRename(q, l.Yes, q.Blocks[i].Label, label)
		}
		if len(ahead(q, l.No)) > 1 {
			label := plainLabel(q)
			q.Blocks = append(q.Blocks, bare(label, jump(l.No)))
			q.Blocks[i].Last.No = label
			plainRename(q, l.No, q.Blocks[i].Label, label)
		}
	}
	return q
}

// plainRename: a label that is above all others goes to the end of the phis' entries.
func plainRename(q ir.Program, at, old, label int) {
	for _, b := range q.Blocks {
		if b.Label != at {
			continue
		}
		for j, x := range b.Phis {
			for k := range x.From {
				if x.From[k] == old {
					r := x.Args[k]
					x.From = append(slices.Delete(x.From, k, k+1), label)
					x.Args = append(slices.Delete(x.Args, k, k+1), r)
					b.Phis[j] = x
					break
				}
			}
		}
	}
}

// call is one that makes a program of a program, and what it is to make.
type call struct {
	name      string
	do, plain func(ir.Program) ir.Program
}

func calls() []call {
	return []call{{"P14.1: Ways", Ways, plainWays}, {"P14.1: Reached", Reached, plainReached}, {"P14.1: Front", Front, plainFront}, {"P14.2: Edges", Edges, plainEdges}}
}

// crowdedWays: how many ways go from a block that goes on at two to one that comes from two.
func crowdedWays(p ir.Program) int {
	n := 0
	for _, b := range p.Blocks {
		if l := b.Last; l.End == ir.Branch && l.Yes != l.No {
			n += min(len(ahead(p, l.Yes))-1, 1) + min(len(ahead(p, l.No))-1, 1)
		}
	}
	return n
}

// promised: what the chapter says of what comes out.
func promised(t *testing.T, what string, p ir.Program) {
	t.Helper()
	q := Reached(p)
	for _, b := range q.Blocks {
		for _, x := range b.Phis {
			for _, label := range x.From {
				if !slices.Contains(ahead(q, b.Label), label) {
					t.Errorf("P14.1: Reached, %s: %d has an entry of %d", what, b.Label, label)
				}
			}
		}
	}
	if q := Front(p); len(ahead(q, q.Blocks[0].Label)) != 0 {
		t.Errorf("P14.1: Front, %s: a block goes on at the first: %+v", what, q)
	}
	if q := Edges(p); crowdedWays(q) != 0 || len(q.Blocks) != len(p.Blocks)+crowdedWays(p) {
		t.Errorf("P14.2: Edges, %s: %d of %d ways are left, %d blocks of %d", what, crowdedWays(q), crowdedWays(p), len(q.Blocks), len(p.Blocks))
	}
}

// holds: each call against the plain one; what comes out may be; done again nothing is changed; the program is as it was.
func holds(t *testing.T, what string, p ir.Program) {
	t.Helper()
	may(t, what, p)
	before := p.Clone()
	if n := Label(p); n != plainLabel(p) {
		t.Errorf("P14.1: Label, %s: %d", what, n)
	}
	for _, c := range calls() {
		name := c.name + ", " + what
		q := c.do(p)
		is(t, name, q, c.plain(p))
		may(t, name, q)
		is(t, name+", again", c.do(q), q)
		is(t, "R8: "+name+", twice", c.do(p), q)
		is(t, "R6: "+name+", what was handed in", p, before)
	}
	promised(t, what, p)
}

// made is what a call has made of a program.
type made struct {
	name string
	q    ir.Program
}

func allMade(p ir.Program) []made {
	l := []made{{"P3: all of them", Edges(Front(Reached(p)))}}
	for _, c := range calls() {
		l = append(l, made{c.name, c.do(p)})
	}
	return l
}

// acts: with these inputs what was made does what the program did; and P3: within as many steps as it says.
func acts(t *testing.T, p ir.Program, l []made, in []int64) run.Outcome {
	t.Helper()
	const fuel = 120
	o := run.Run(p, in, fuel)
	back := run.Run(p, in, (fuel+1)*(p.Count()+1))
	for _, m := range l {
		// What is spent in the one may end in the other: each has as much as it may need for what the other one ends with.
		r := run.Run(m.q, in, (fuel+1)*(m.q.Count()+1))
		if o.End != run.Spent && (!run.Same(o, r) || r.Steps > (o.Steps+1)*(m.q.Count()+1)) {
			t.Errorf("P3: %s, inputs %v: %+v, not %+v: %+v", m.name, in, r, o, p)
		}
		r = run.Run(m.q, in, fuel)
		if r.End != run.Spent && (!run.Same(back, r) || back.Steps > (r.Steps+1)*(p.Count()+1)) {
			t.Errorf("P3: %s, inputs %v: %+v, though it was %+v: %+v", m.name, in, r, back, p)
		}
	}
	return o
}

// stays: what Ways and Reached leave out changes no step.
func stays(t *testing.T, p ir.Program, in []int64) {
	t.Helper()
	l := []ir.Program{Ways(p), Reached(p)}
	for fuel := range 30 {
		o := run.Run(p, in, fuel)
		for _, q := range l {
			if r := run.Run(q, in, fuel); !run.Same(o, r) || o.Steps != r.Steps {
				t.Errorf("P14.1: inputs %v, fuel %d: %+v, not %+v: %+v", in, fuel, r, o, p)
			}
		}
	}
}

// ends: all that a block may have, of labels.
func ends(labels []int) []ir.Last {
	l := []ir.Last{ret(1), trap()}
	for _, yes := range labels {
		l = append(l, jump(yes))
		for _, no := range labels {
			l = append(l, branch(1, yes, no))
		}
	}
	return l
}

// phisOf: of all labels, of all but one each, of none.
func phisOf(labels []int) []ir.Phi {
	rising := slices.Sorted(slices.Values(labels))
	all := ir.Phi{Dst: 10}
	for i, label := range rising {
		all.From = append(all.From, label)
		all.Args = append(all.Args, 20+i)
	}
	l := []ir.Phi{all, {Dst: 11}}
	for i := range rising {
		l = append(l, ir.Phi{Dst: 12 + i, From: slices.Delete(slices.Clone(all.From), i, i+1), Args: slices.Delete(slices.Clone(all.Args), i, i+1)})
	}
	return l
}

// telling: a block that puts out what its phis set, and hands on registers that tell how one came.
func telling(label, place int, labels []int) ir.Block {
	b := ir.Block{Label: label, Phis: phisOf(labels)}
	for _, x := range b.Phis {
		b.Instrs = append(b.Instrs, ir.Instr{Kind: ir.Out, A: x.Dst})
	}
	b.Instrs = append(b.Instrs, ir.Instr{Dst: 1, N: int64(label)})
	for i := range labels {
		b.Instrs = append(b.Instrs, ir.Instr{Kind: ir.Do, Op: word.Add, Dst: 20 + i, A: 10 + i, B: 1})
	}
	b.Instrs = append(b.Instrs, ir.Instr{Kind: ir.In, Dst: 1})
	if place == 0 {
		b.Instrs = append(b.Instrs, ir.Instr{Kind: ir.Out, A: 1})
	}
	return b
}

// each: all programs of blocks with these labels, by their ends.
func each(labels []int, see func(p ir.Program)) {
	all := ends(labels)
	var p ir.Program
	for i, label := range labels {
		p.Blocks = append(p.Blocks, telling(label, i, labels))
	}
	count := 1
	for range labels {
		count *= len(all)
	}
	for n := range count {
		for i := range labels {
			p.Blocks[i].Last = all[n%len(all)]
			n /= len(all)
		}
		see(p)
	}
}

// P14.1, P14.2: all programs of up to three blocks, with phis, against the chapter's words.
func TestAll(t *testing.T) {
	for _, labels := range [][]int{{0}, {8}, {0, 1}, {8, 3}, {0, 1, 2}, {40, 3, 17}} {
		each(labels, func(p ir.Program) {
			if !t.Failed() {
				holds(t, fmt.Sprintf("%+v", p), p)
			}
		})
	}
}

// P3: all programs of up to three blocks, with phis, with inputs at which they branch this way and that.
func TestAllDo(t *testing.T) {
	var met [run.Ends]int
	for _, labels := range [][]int{{8}, {8, 3}, {40, 3, 17}} {
		each(labels, func(p ir.Program) {
			if t.Failed() {
				return
			}
			l := allMade(p)
			for bits := range 16 {
				o := acts(t, p, l, []int64{int64(bits & 1), int64(bits & 2), int64(bits & 4), int64(-bits & 8)})
				met[o.End]++
			}
			stays(t, p, []int64{1, 0, 0, 1})
		})
	}
	if met[run.Returned] < 1000 || met[run.Trapped] < 1000 {
		t.Errorf("all programs: ends %v", met)
	}
}

// dice: a row of numbers that is the same each time.
func dice(seed uint64) func(n int) int {
	return func(n int) int {
		seed = seed*6364136223846793005 + 1442695040888963407
		return int(seed>>33) % n
	}
}

// shuffled: n labels that lie apart, in any order.
func shuffled(roll func(int) int, n int) []int {
	var l []int
	for i := range n {
		l = append(l, i*3+roll(3))
	}
	for i := range l {
		k := i + roll(n-i)
		l[i], l[k] = l[k], l[i]
	}
	return l
}

func anyInstr(roll func(int) int, registers int) ir.Instr {
	x := ir.Instr{Kind: ir.Kind(roll(int(ir.Kinds))), Op: word.Op(roll(int(word.Ops))), Dst: roll(registers), A: roll(registers), B: roll(registers), N: int64(roll(5) - 1), Slot: roll(3)}
	if x.Kind == ir.Do && x.Op.Traps() && roll(3) > 0 {
		x.Op = word.Sub
	}
	if x.Kind >= ir.Get && roll(3) > 0 {
		x.Kind = ir.Out
	}
	return x.Only()
}

// anyPhi: of some of the blocks' labels, rising.
func anyPhi(roll func(int) int, dst int, labels []int, registers int) ir.Phi {
	x := ir.Phi{Dst: dst}
	for _, label := range slices.Sorted(slices.Values(labels)) {
		if roll(4) > 0 {
			x.From = append(x.From, label)
			x.Args = append(x.Args, roll(registers))
		}
	}
	return x
}

// anyProgram: any program that may be, of n blocks; with phis, or one that is plain.
func anyProgram(roll func(int) int, n, registers int, phis bool) ir.Program {
	labels := shuffled(roll, n)
	var p ir.Program
	for _, label := range labels {
		b := ir.Block{Label: label}
		for dst := range registers {
			if phis && roll(3) == 0 {
				b.Phis = append(b.Phis, anyPhi(roll, dst, labels, registers))
			}
		}
		for range roll(4) {
			b.Instrs = append(b.Instrs, anyInstr(roll, registers))
		}
		b.Last = ir.Last{End: ir.End(roll(int(ir.Ends))), A: roll(registers), Yes: labels[roll(n)], No: labels[roll(n)]}
		if b.Last.End >= ir.Return && roll(3) > 0 {
			b.Last.End = ir.Branch
		}
		b.Last = b.Last.Only()
		p.Blocks = append(p.Blocks, b)
	}
	return p
}

func anyInputs(roll func(int) int) []int64 {
	var in []int64
	for range roll(8) {
		in = append(in, int64(roll(5)-1))
	}
	return in
}

// P14.1, P14.2, P3: any programs with phis, held against the chapter's words, and run.
func TestAny(t *testing.T) {
	var met [run.Ends]int
	left, put, parted := 0, 0, 0
	for seed := range 4000 {
		roll := dice(uint64(seed) + 5)
		p := anyProgram(roll, 1+roll(9), 1+roll(5), true)
		what := fmt.Sprintf("any program, %d: %+v", seed, p)
		holds(t, what, p)
		in := anyInputs(roll)
		o := acts(t, p, allMade(p), in)
		stays(t, p, in)
		if t.Failed() {
			return
		}
		met[o.End]++
		left += len(p.Blocks) - len(Reached(p).Blocks)
		put += len(Front(p).Blocks) - len(p.Blocks)
		parted += len(Edges(p).Blocks) - len(p.Blocks)
	}
	if slices.Min(append(met[:], left, put, parted)) < 300 {
		t.Errorf("any programs: ends %v, %d left out, %d put in, %d parted", met, left, put, parted)
	}
}

// P3, P4: sure programs stay sure, and do what they did.
func TestSure(t *testing.T) {
	count := 0
	for seed := range 6000 {
		roll := dice(uint64(seed) + 9)
		registers := 1 + roll(4)
		p := anyProgram(roll, 1+roll(8), registers, false)
		for r := range registers {
			if seed%3 > 0 {
				p.Blocks[0].Instrs = slices.Insert(p.Blocks[0].Instrs, 0, ir.Instr{Kind: ir.Const, Dst: r, N: int64(roll(3))})
			}
		}
		if sure.Check(p) != api.OK {
			continue
		}
		count++
		what := fmt.Sprintf("a sure program, %d: %+v", seed, p)
		for _, c := range calls() {
			if err := sure.Check(c.do(p)); err != api.OK {
				t.Errorf("P4: %s, %s: error %d", c.name, what, err)
			}
		}
		acts(t, p, allMade(p), anyInputs(roll))
		if t.Failed() {
			return
		}
	}
	if count < 3000 {
		t.Errorf("only %d sure programs", count)
	}
}
