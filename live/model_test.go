package live

import (
	"fmt"
	"slices"
	"testing"

	"refinery/api"
	"refinery/bag"
	"refinery/ir"
	"refinery/parse"
	"refinery/word"
)

// regs are registers, the plain way.
type regs map[int]bool

func listed(l ...int) regs {
	s := regs{}
	for _, r := range l {
		s[r] = true
	}
	return s
}

func (s regs) sorted() []int {
	var l []int
	for r := range s {
		l = append(l, r)
	}
	slices.Sort(l)
	return l
}

// setOf, readsOf: chapter 3's words on instructions, kind by kind.
func setOf(x ir.Instr) (int, bool) {
	switch x.Kind {
	case ir.Const, ir.Copy, ir.Do, ir.In, ir.Load, ir.Get:
		return x.Dst, true
	}
	return 0, false
}

func readsOf(x ir.Instr) []int {
	switch x.Kind {
	case ir.Copy, ir.Out, ir.Store, ir.Get:
		return []int{x.A}
	case ir.Do, ir.Put:
		return []int{x.A, x.B}
	}
	return nil
}

// plainEach: what Each tells, by P11.1's words; see has of each instruction what is live behind it.
func plainEach(b ir.Block, out regs, see func(i int, behind regs)) regs {
	live := regs{}
	for r := range out {
		live[r] = true
	}
	if b.Last.End == ir.Branch || b.Last.End == ir.Return {
		live[b.Last.A] = true
	}
	for i := len(b.Instrs) - 1; i >= 0; i-- {
		see(i, live)
		if r, ok := setOf(b.Instrs[i]); ok {
			delete(live, r)
		}
		for _, r := range readsOf(b.Instrs[i]) {
			live[r] = true
		}
	}
	return live
}

// unseen: a see that does nothing.
func unseen(int, regs) {}

// next: the places of the blocks at which a block goes on; of blocks with one label the first one.
func next(p ir.Program, b ir.Block) []int {
	var labels []int
	switch b.Last.End {
	case ir.Jump:
		labels = []int{b.Last.Yes}
	case ir.Branch:
		labels = []int{b.Last.Yes, b.Last.No}
	}
	var places []int
	for _, label := range labels {
		if i := slices.IndexFunc(p.Blocks, func(c ir.Block) bool { return c.Label == label }); i >= 0 {
			places = append(places, i)
		}
	}
	return places
}

// plainOut: what Out has to have, by the sets at the beginnings so far.
func plainOut(p ir.Program, b ir.Block, in []regs) regs {
	out := regs{}
	for _, i := range next(p, b) {
		set := regs{}
		for _, x := range p.Blocks[i].Phis {
			set[x.Dst] = true
		}
		for r := range in[i] {
			if !set[r] {
				out[r] = true
			}
		}
		for _, x := range p.Blocks[i].Phis {
			for k := 0; k < len(x.From) && k < len(x.Args); k++ {
				if x.From[k] == b.Label {
					out[x.Args[k]] = true
				}
			}
		}
	}
	return out
}

// plainOf: from empty sets on P11.1's words are done again and again, till nothing changes: these sets are the least.
func plainOf(p ir.Program) (in, out []regs) {
	in, out = make([]regs, len(p.Blocks)), make([]regs, len(p.Blocks))
	for changed := true; changed; {
		changed = false
		for i, b := range p.Blocks {
			o := plainOut(p, b, in)
			n := plainEach(b, o, unseen)
			changed = changed || len(o) != len(out[i]) || len(n) != len(in[i])
			in[i], out[i] = n, o
		}
	}
	return in, out
}

// lists: sets as lists.
func lists(l []bag.Set[int]) [][]int {
	all := make([][]int, len(l))
	for i, s := range l {
		all[i] = s.List()
	}
	return all
}

// sorted: likewise, of the plain way's.
func sorted(l []regs) [][]int {
	all := make([][]int, len(l))
	for i, s := range l {
		all[i] = s.sorted()
	}
	return all
}

func sameLists(a, b [][]int) bool {
	return slices.EqualFunc(a, b, func(l, m []int) bool { return slices.Equal(l, m) })
}

// are: are a program's sets these?
func are(t *testing.T, what any, s Sets, in, out [][]int) {
	t.Helper()
	if !sameLists(lists(s.In), in) {
		t.Errorf("P11.1: In: %v: %v, not %v", what, lists(s.In), in)
	}
	if !sameLists(lists(s.Out), out) {
		t.Errorf("P11.1: Out: %v: %v, not %v", what, lists(s.Out), out)
	}
}

// holds: a program's sets against the plain way's.
func holds(t *testing.T, what any, p ir.Program) {
	t.Helper()
	in, out := plainOf(p)
	are(t, what, Of(p), sorted(in), sorted(out))
}

// read: a text's program, that may be, with phis put to blocks.
func read(t *testing.T, text string, phis map[int][]ir.Phi) ir.Program {
	t.Helper()
	p, at, err := parse.Parse(text)
	if err != api.OK {
		t.Fatalf("error %d at %d of %s", err, at, text)
	}
	for i, l := range phis {
		p.Blocks[i].Phis = l
	}
	may(t, p)
	return p
}

func may(t *testing.T, p ir.Program) {
	t.Helper()
	if err := p.Check(); err != api.OK {
		t.Fatalf("error %d: %v", err, p)
	}
}

// dice: a row of numbers that is the same each time.
func dice(seed uint64) func(n int) int {
	return func(n int) int {
		seed = seed*6364136223846793005 + 1442695040888963407
		return int(seed>>33) % n
	}
}

// bodies: rows of instructions that set and read two registers in all ways.
func bodies() [][]ir.Instr {
	in, out := ir.Instr{Kind: ir.In}, ir.Instr{Kind: ir.Out}
	return [][]ir.Instr{
		nil,
		{in},
		{out},
		{out, in},
		{in, out},
		{{Kind: ir.Copy, Dst: 1}},
		{{Kind: ir.Do, Op: word.Add, A: 1, B: 0}},
	}
}

// ends: all ends that go on at some of n blocks, that read one of two registers.
func ends(n int) []ir.Last {
	l := []ir.Last{{End: ir.Trap}, {End: ir.Return}, {End: ir.Return, A: 1}}
	for yes := range n {
		l = append(l, ir.Last{End: ir.Jump, Yes: yes})
		for no := range n {
			l = append(l, ir.Last{End: ir.Branch, A: (yes + no) % 2, Yes: yes, No: no})
		}
	}
	return l
}

// all: each row of n blocks out of a choice each.
func all(t *testing.T, choice [][]ir.Block, row []ir.Block) {
	if t.Failed() {
		return
	}
	if len(choice) == 0 {
		p := ir.Program{Blocks: row}
		may(t, p)
		holds(t, fmt.Sprintf("%+v", p), p)
		return
	}
	for _, b := range choice[0] {
		all(t, choice[1:], append(row[:len(row):len(row)], b))
	}
}

// P11.1: all programs of one and of two blocks out of rows of instructions, ends and phis, with entries from one, from the other, from both.
func TestSmall(t *testing.T) {
	for n := 1; n <= 2; n++ {
		phis := [][]ir.Phi{nil, {{Dst: 0}}, {{Dst: 0, From: []int{0}, Args: []int{0}}}, {{Dst: 1, From: []int{0}, Args: []int{0}}}}
		if n == 2 {
			phis = append(phis, []ir.Phi{{Dst: 0, From: []int{1}, Args: []int{2}}}, []ir.Phi{{Dst: 1, From: []int{0, 1}, Args: []int{1, 2}}, {Dst: 2, From: []int{0, 1}, Args: []int{2, 1}}})
		}
		var choice [][]ir.Block
		for label := range n {
			var l []ir.Block
			for _, body := range bodies() {
				for _, end := range ends(n) {
					for _, x := range phis {
						l = append(l, ir.Block{Label: label, Phis: x, Instrs: body, Last: end})
					}
				}
			}
			choice = append(choice, l)
		}
		all(t, choice, nil)
	}
}

// P11.1: all programs of three blocks, of which each reads, sets, sets and reads, or leaves alone one register, and has a phi or none.
func TestThree(t *testing.T) {
	var choice [][]ir.Block
	for label := range 3 {
		var l []ir.Block
		for _, body := range bodies()[:3] {
			for _, end := range ends(3) {
				if end.End == ir.Return && end.A == 0 || end.End == ir.Branch && end.Yes > end.No {
					continue
				}
				l = append(l, ir.Block{Label: label, Instrs: body, Last: end})
			}
		}
		for _, end := range ends(3)[:5] {
			l = append(l, ir.Block{Label: label, Phis: []ir.Phi{{Dst: 0, From: []int{1, 2}, Args: []int{1, 0}}}, Last: end})
		}
		choice = append(choice, l)
	}
	all(t, choice, nil)
}

// anyInstr: an instruction of any kind, of some registers.
func anyInstr(roll func(int) int, n int) ir.Instr {
	x := ir.Instr{Kind: ir.Kind(roll(int(ir.Kinds))), Op: word.Op(roll(int(word.Ops))), Dst: roll(n), A: roll(n), B: roll(n), N: int64(roll(9)), Slot: roll(api.Slots)}
	return x.Only()
}

// anyProgram: any program that may be, of n blocks whose labels neither begin at 0 nor rise.
func anyProgram(roll func(int) int, n, registers int) ir.Program {
	label := func(i int) int { return 90000 - i*7 }
	var p ir.Program
	for i := range n {
		b := ir.Block{Label: label(i)}
		for range roll(3) * roll(2) {
			x := ir.Phi{Dst: roll(registers)}
			for from := n - 1; from >= 0; from-- {
				if roll(3) > 0 {
					x.From = append(x.From, label(from))
					x.Args = append(x.Args, roll(registers))
				}
			}
			b.Phis = append(b.Phis, x)
		}
		for range roll(5) {
			b.Instrs = append(b.Instrs, anyInstr(roll, registers))
		}
		yes, no := roll(n), min(i+roll(3), n-1)
		b.Last = ir.Last{End: ir.End(roll(int(ir.Ends))), A: roll(registers), Yes: label(yes), No: label(no)}
		if b.Last.End >= ir.Return && roll(2) == 0 {
			b.Last.End = ir.Branch
		}
		b.Last = b.Last.Only()
		p.Blocks = append(p.Blocks, b)
	}
	return p
}

// P11.1: any programs, of few and of many blocks and registers.
func TestAny(t *testing.T) {
	for seed := range 6000 {
		roll := dice(uint64(seed) + 5)
		p := anyProgram(roll, 1+roll(12), 1+roll(10))
		may(t, p)
		holds(t, fmt.Sprintf("any program, %d: %+v", seed, p), p)
		if t.Failed() {
			return
		}
	}
	for seed := range 20 {
		roll := dice(uint64(seed) + 77)
		p := anyProgram(roll, 60, 30+roll(200))
		may(t, p)
		holds(t, fmt.Sprint("60 blocks, ", seed), p)
	}
}
