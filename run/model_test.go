package run

import (
	"fmt"
	"slices"
	"testing"

	"refinery/api"
	"refinery/ir"
	"refinery/parse"
	"refinery/word"
)

// plain is a run by P13.1's own words, one look-up after the other, of a program that may be.
type plain struct {
	p              ir.Program
	in             []int64
	fuel, next     int
	regs           map[int]int64
	slots          map[int]int64
	memory         map[int64]int64
	o              Outcome
	phis, comeBack int // how many were set, and how many of them in the first block by one that came back
}

// walked: from the first block on, till it ends.
func walked(p ir.Program, in []int64, fuel int) *plain {
	w := &plain{p: p, in: in, fuel: fuel, regs: map[int]int64{}, slots: map[int]int64{}, memory: map[int64]int64{}}
	label, from := p.Blocks[0].Label, -1
	for {
		b := w.find(label)
		w.setPhis(b, from)
		for _, x := range b.Instrs {
			if w.spent() {
				return w
			}
			w.o.Steps++
			if !w.do(x) {
				w.o.End = Trapped
				return w
			}
		}
		if w.spent() {
			return w
		}
		w.o.Steps++
		from = label
		switch {
		case b.Last.End == ir.Trap:
			w.o.End = Trapped
			return w
		case b.Last.End == ir.Return:
			w.o.End, w.o.Value = Returned, w.regs[b.Last.A]
			return w
		case b.Last.End == ir.Branch && w.regs[b.Last.A] == 0:
			label = b.Last.No
		default:
			label = b.Last.Yes
		}
	}
}

func (w *plain) find(label int) ir.Block {
	for _, b := range w.p.Blocks {
		if b.Label == label {
			return b
		}
	}
	panic("no such label")
}

func (w *plain) spent() bool {
	if w.o.Steps >= w.fuel || w.o.Steps >= 1048576 {
		w.o.End = Spent
		return true
	}
	return false
}

func (w *plain) setPhis(b ir.Block, from int) {
	after := map[int]int64{}
	for _, x := range b.Phis {
		after[x.Dst] = 0
		for i, label := range x.From {
			if label == from {
				after[x.Dst] = w.regs[x.Args[i]]
				w.phis++
				if b.Label == w.p.Blocks[0].Label {
					w.comeBack++
				}
			}
		}
	}
	for r, n := range after {
		w.regs[r] = n
	}
}

func (w *plain) do(x ir.Instr) bool {
	a, b := w.regs[x.A], w.regs[x.B]
	ok := true
	switch x.Kind {
	case ir.Const:
		w.regs[x.Dst] = x.N
	case ir.Copy:
		w.regs[x.Dst] = a
	case ir.Do:
		w.regs[x.Dst], ok = x.Op.Do(a, b)
	case ir.In:
		if ok = w.next < len(w.in); ok {
			w.regs[x.Dst] = w.in[w.next]
			w.next++
		}
	case ir.Out:
		w.o.Trace = append(w.o.Trace, a)
	case ir.Load:
		w.regs[x.Dst] = w.slots[x.Slot]
	case ir.Store:
		w.slots[x.Slot] = a
	case ir.Get:
		w.regs[x.Dst] = w.memory[a]
		ok = a >= 0 && a <= 63
	case ir.Put:
		w.memory[a] = b
		ok = a >= 0 && a <= 63
	}
	return ok
}

// alike: in all, the steps too.
func alike(a, b Outcome) bool {
	return a.End == b.End && a.Value == b.Value && slices.Equal(a.Trace, b.Trace) && a.Steps == b.Steps
}

// ends: does a run end so?
func ends(t *testing.T, what any, o, want Outcome) {
	t.Helper()
	if !alike(o, want) {
		t.Errorf("P13.1: %v: %v, not %v", what, brief(o), brief(want))
	}
}

// brief: an outcome, with no more of a long row than can be read.
func brief(o Outcome) string {
	l := o.Trace
	if len(l) > 20 {
		l = l[:20]
	}
	return fmt.Sprintf("end %d, value %d, %d put out: %v, %d steps", o.End, o.Value, len(o.Trace), l, o.Steps)
}

// holds: a run against the plain one.
func holds(t *testing.T, what any, p ir.Program, in []int64, fuel int) *plain {
	t.Helper()
	w := walked(p, in, fuel)
	ends(t, what, Run(p, in, fuel), w.o)
	return w
}

// read: a text's program, that may be.
func read(t *testing.T, text string) ir.Program {
	t.Helper()
	p, at, err := parse.Parse(text)
	if err != api.OK {
		t.Fatalf("error %d at %d of %s", err, at, text)
	}
	return p
}

func may(t *testing.T, p ir.Program) {
	t.Helper()
	if err := p.Check(); err != api.OK {
		t.Fatalf("error %d: %+v", err, p)
	}
}

// dice: a row of numbers that is the same each time.
func dice(seed uint64) func(n int) int {
	return func(n int) int {
		seed = seed*6364136223846793005 + 1442695040888963407
		return int(seed>>33) % n
	}
}

// small: numbers at which ops, memory and branches turn.
var small = []int64{0, 0, 1, 1, 2, 3, 5, 62, 63, 64, -1, -1 << 63, 1<<63 - 1}

func anyInstr(roll func(int) int, registers int) ir.Instr {
	x := ir.Instr{Kind: ir.Kind(roll(int(ir.Kinds))), Op: word.Op(roll(int(word.Ops))), Dst: roll(registers), A: roll(registers), B: roll(registers), N: small[roll(len(small))], Slot: roll(3)}
	if x.Kind == ir.Do && x.Op.Traps() && roll(3) > 0 {
		x.Op = word.Sub
	}
	if x.Kind >= ir.Get && roll(3) > 0 {
		x.Kind = ir.Out
	}
	return x.Only()
}

// anyPhi: of some of the blocks' labels, rising.
func anyPhi(roll func(int) int, labels []int, registers int) ir.Phi {
	x := ir.Phi{Dst: roll(registers)}
	for _, label := range slices.Sorted(slices.Values(labels)) {
		if roll(4) > 0 {
			x.From = append(x.From, label)
			x.Args = append(x.Args, roll(registers))
		}
	}
	return x
}

// anyProgram: any program that may be, of n blocks whose labels neither begin at 0 nor rise; no two phis of a block set the same register.
func anyProgram(roll func(int) int, n, registers int, phis bool) ir.Program {
	var labels []int
	for i := range n {
		labels = append(labels, 90000-i*7)
	}
	var p ir.Program
	for _, label := range labels {
		b := ir.Block{Label: label}
		for range roll(4) {
			x := anyPhi(roll, labels, registers)
			if phis && !slices.ContainsFunc(b.Phis, func(y ir.Phi) bool { return y.Dst == x.Dst }) {
				b.Phis = append(b.Phis, x)
			}
		}
		for range roll(4) {
			b.Instrs = append(b.Instrs, anyInstr(roll, registers))
		}
		b.Last = ir.Last{End: ir.End(roll(int(ir.Ends))), A: roll(registers), Yes: labels[roll(n)], No: labels[roll(n)]}
		if b.Last.End >= ir.Return && roll(3) > 0 {
			b.Last.End = ir.Branch
		}
		b.Last = b.Last.Only()
		p.Blocks = append(p.Blocks, b)
	}
	return p
}

func anyInputs(roll func(int) int, n int) []int64 {
	var in []int64
	for range roll(n) {
		in = append(in, small[roll(len(small))])
	}
	return in
}

// P13.1: any programs, plain ones and ones with phis, with any inputs and fuel, against the plain run; all ends come, with values, with steps, with phis.
func TestAny(t *testing.T) {
	var met [Ends]int
	values, traces, phis, back := 0, 0, 0, 0
	for seed := range 20000 {
		roll := dice(uint64(seed) + 3)
		p := anyProgram(roll, 1+roll(6), 1+roll(5), seed%2 == 0)
		may(t, p)
		in := anyInputs(roll, 8)
		w := holds(t, fmt.Sprintf("any program, %d: %+v, %v", seed, p, in), p, in, 200)
		if t.Failed() {
			return
		}
		met[w.o.End]++
		phis += min(w.phis, 1)
		back += min(w.comeBack, 1)
		traces += min(len(w.o.Trace), 1)
		if w.o.Value != 0 {
			values++
		}
	}
	for _, n := range append(met[:], values, traces, phis, back) {
		if n < 300 {
			t.Errorf("any programs: ends %v, values %d, traces %d, phis %d, %d in the first block", met, values, traces, phis, back)
			break
		}
	}
}

// P13.1: of any program with each fuel: the first steps of the same run, Spent, or all of it.
func TestAnyFuel(t *testing.T) {
	for seed := range 400 {
		roll := dice(uint64(seed) + 8)
		p := anyProgram(roll, 1+roll(5), 1+roll(4), true)
		in := anyInputs(roll, 8)
		whole := Run(p, in, 60)
		for fuel := -1; fuel <= 60; fuel++ {
			what := fmt.Sprintf("any program, %d, fuel %d", seed, fuel)
			o := holds(t, what, p, in, fuel).o
			if fuel >= whole.Steps {
				ends(t, what, o, whole)
			} else if o.End != Spent || o.Steps != max(fuel, 0) || !slices.Equal(o.Trace, whole.Trace[:len(o.Trace)]) {
				t.Errorf("P13.1: %s: %s, of %s", what, brief(o), brief(whole))
			}
		}
		if t.Failed() {
			return
		}
	}
}

// rows: instructions, of two registers, that are put together in all ways.
func rows() [][]ir.Instr {
	var l []ir.Instr
	for _, n := range []int64{1, -1, 64} {
		l = append(l, ir.Instr{Kind: ir.Const, N: n})
	}
	for k := ir.Copy; k < ir.Kinds; k++ {
		l = append(l, ir.Instr{Kind: k}, ir.Instr{Kind: k, Dst: 1}.Only(), ir.Instr{Kind: k, A: 1}.Only(), ir.Instr{Kind: k, Dst: 1, B: 1}.Only(), ir.Instr{Kind: k, Slot: 15}.Only(), ir.Instr{Kind: k, Op: word.Div, A: 1}.Only())
	}
	all := [][]ir.Instr{nil}
	for _, x := range l {
		all = append(all, []ir.Instr{x})
		for _, y := range l {
			all = append(all, []ir.Instr{x, y})
		}
	}
	return all
}

// P13.1: all rows of at most two instructions, ahead of each end, in all ways behind one another.
func TestRows(t *testing.T) {
	tail := ir.Block{Label: 1, Instrs: []ir.Instr{{Kind: ir.Out}, {Kind: ir.Out, A: 1}, {Kind: ir.Load, Dst: 2}, {Kind: ir.Out, A: 2}, {Kind: ir.Load, Dst: 2, Slot: 15}, {Kind: ir.Out, A: 2}, {Kind: ir.Get, Dst: 2, A: 3}, {Kind: ir.Out, A: 2}}, Last: ir.Last{End: ir.Return, A: 1}}
	for _, row := range rows() {
		for _, last := range []ir.Last{{Yes: 1}, {End: ir.Branch, Yes: 1}, {End: ir.Branch, No: 1}, {End: ir.Branch, A: 1, Yes: 1}, {End: ir.Return}, {End: ir.Return, A: 1}, {End: ir.Trap}} {
			p := ir.Program{Blocks: []ir.Block{{Instrs: row, Last: last}, tail}}
			for _, in := range [][]int64{nil, {7}, {7, -9}, {0, 1, 2, 3, 4, 5}} {
				holds(t, fmt.Sprintf("%+v, %v", p, in), p, in, 40)
			}
			if t.Failed() {
				return
			}
		}
	}
}
