package ssa

import (
	"fmt"
	"maps"
	"slices"
	"testing"

	"refinery/api"
	"refinery/ir"
	"refinery/run"
	"refinery/slots"
	"refinery/sure"
	"refinery/word"
)

// goesOn: does an end go on at a label?
func goesOn(l ir.Last, label int) bool {
	return l.End == ir.Jump && l.Yes == label || l.End == ir.Branch && (l.Yes == label || l.No == label)
}

// ways: which blocks, by their places, are ahead of each one, and over each one, by the document's own words.
type ways struct {
	ahead [][]int
	over  [][]bool
}

func waysOf(p ir.Program) ways {
	w := ways{ahead: make([][]int, len(p.Blocks)), over: make([][]bool, len(p.Blocks))}
	for v, b := range p.Blocks {
		for u, c := range p.Blocks {
			if goesOn(c.Last, b.Label) {
				w.ahead[v] = append(w.ahead[v], u)
			}
		}
	}
	met := w.come(-1)
	for a := range p.Blocks {
		without := w.come(a)
		w.over[a] = make([]bool, len(p.Blocks))
		for v := range p.Blocks {
			w.over[a][v] = met[a] && met[v] && !without[v]
		}
	}
	return w
}

// come: to which blocks one comes from the first, without one of them.
func (w ways) come(without int) []bool {
	behind := make([][]int, len(w.ahead))
	for v, l := range w.ahead {
		for _, u := range l {
			behind[u] = append(behind[u], v)
		}
	}
	met := make([]bool, len(w.ahead))
	var open []int
	meet := func(v int) {
		if v != without && !met[v] {
			met[v] = true
			open = append(open, v)
		}
	}
	meet(0)
	for len(open) > 0 {
		u := open[0]
		open = open[1:]
		for _, v := range behind[u] {
			meet(v)
		}
	}
	return met
}

// below: of those that a block is over, but itself, the ones that no other such block is over.
func (w ways) below(r int) []int {
	var l []int
	for v := range w.over {
		if v == r || !w.over[r][v] {
			continue
		}
		near := true
		for u := range w.over {
			near = near && (u == r || u == v || !w.over[r][u] || !w.over[u][v])
		}
		if near {
			l = append(l, v)
		}
	}
	return l
}

// inFront: is v where r's rule ends?
func (w ways) inFront(r, v int) bool {
	overAhead := slices.ContainsFunc(w.ahead[v], func(u int) bool { return w.over[r][u] })
	return overAhead && (!w.over[r][v] || r == v)
}

// plainStart: chapter 14's Reached and Front, of a plain program.
func plainStart(p ir.Program) ir.Program {
	var q ir.Program
	for i, met := range waysOf(p).come(-1) {
		if met {
			q.Blocks = append(q.Blocks, p.Clone().Blocks[i])
		}
	}
	label, back := 0, false
	for _, b := range q.Blocks {
		label = max(label, b.Label+1)
		back = back || goesOn(b.Last, p.Blocks[0].Label)
	}
	if back {
		q.Blocks = append([]ir.Block{block(label, jump(p.Blocks[0].Label))}, q.Blocks...)
	}
	return q
}

// needs: does a block read a register ahead of setting it?
func needs(b ir.Block, r int) bool {
	for _, x := range b.Instrs {
		if slices.Contains(x.Reads(), r) {
			return true
		}
		if set, ok := x.Sets(); ok && set == r {
			return false
		}
	}
	a, ok := b.Last.Reads()
	return ok && a == r
}

func setsIt(b ir.Block, r int) bool {
	return slices.ContainsFunc(b.Instrs, func(x ir.Instr) bool { set, ok := x.Sets(); return ok && set == r })
}

// liveIn: at the beginning of which blocks is a register live: those that need it, and those that don't set it and that one of these is behind.
func liveIn(p ir.Program, w ways, r int) []bool {
	in := make([]bool, len(p.Blocks))
	for i, b := range p.Blocks {
		in[i] = needs(b, r)
	}
	for more := true; more; {
		more = false
		for v := range in {
			for _, u := range w.ahead[v] {
				if in[v] && !in[u] && !setsIt(p.Blocks[u], r) {
					in[u], more = true, true
				}
			}
		}
	}
	return in
}

// joins: the fronts' All of the blocks that set a register.
func joins(p ir.Program, w ways, r int) []bool {
	all := make([]bool, len(p.Blocks))
	for more := true; more; {
		more = false
		for u, b := range p.Blocks {
			if !all[u] && !setsIt(b, r) {
				continue
			}
			for v := range all {
				if !all[v] && w.inFront(u, v) {
					all[v], more = true, true
				}
			}
		}
	}
	return all
}

// plainPhis: of each block the registers that have a phi there.
func plainPhis(p ir.Program, w ways) [][]int {
	l := make([][]int, len(p.Blocks))
	for r := range p.Regs() {
		if !slices.ContainsFunc(p.Blocks, func(b ir.Block) bool { return setsIt(b, r) }) {
			continue
		}
		in := liveIn(p, w, r)
		for i, join := range joins(p, w, r) {
			if join && in[i] {
				l[i] = append(l[i], r)
			}
		}
	}
	return l
}

// plainMake: P16.1's words, of a plain program that may be. What isn't set reads unset, a register that nobody sets.
func plainMake(p ir.Program) ir.Program {
	q := plainStart(p)
	w := waysOf(q)
	regs := plainPhis(q, w)
	ends := make([]map[int]int, len(q.Blocks))
	unset := q.Count()
	for _, l := range regs {
		unset += len(l)
	}
	next := 0
	var down func(i int, now map[int]int)
	down = func(i int, now map[int]int) {
		b := &q.Blocks[i]
		set := func(r int) int { now[r] = next; next++; return next - 1 }
		get := func(r int) int {
			if n, ok := now[r]; ok {
				return n
			}
			return unset
		}
		for _, r := range regs[i] {
			b.Phis = append(b.Phis, ir.Phi{Dst: set(r)})
		}
		for j, x := range b.Instrs {
			x.A, x.B = get(x.A), get(x.B)
			if r, ok := x.Sets(); ok {
				x.Dst = set(r)
			}
			b.Instrs[j] = x.Only()
		}
		b.Last.A = get(b.Last.A)
		b.Last = b.Last.Only()
		ends[i] = now
		for _, v := range w.below(i) {
			down(v, maps.Clone(now))
		}
	}
	down(0, map[int]int{})
	for i, b := range q.Blocks {
		ahead := w.ahead[i]
		slices.SortFunc(ahead, func(u, v int) int { return q.Blocks[u].Label - q.Blocks[v].Label })
		for j, r := range regs[i] {
			for _, u := range ahead {
				name, ok := ends[u][r]
				if !ok {
					name = unset
				}
				b.Phis[j].From = append(b.Phis[j].From, q.Blocks[u].Label)
				b.Phis[j].Args = append(b.Phis[j].Args, name)
			}
		}
	}
	return q
}

// place is where a register is set: in which block, ahead of how many of its instructions (0: by a phi).
type place struct{ block, instr int }

// strict: is a program so by chapter 17's words? (But for chapter 3's Check, as limits may not last.)
func strict(t *testing.T, what any, p ir.Program) {
	t.Helper()
	w := waysOf(p)
	if i := slices.Index(w.come(-1), false); i >= 0 {
		t.Errorf("P16.2: %v: %d isn't reached", what, p.Blocks[i].Label)
	}
	if len(w.ahead[0]) > 0 {
		t.Errorf("P16.2: %v: one goes on at the first", what)
	}
	at := map[int]place{}
	set := func(r, i, j int) {
		if _, ok := at[r]; ok {
			t.Errorf("P16.2: %v: %d is set twice", what, r)
		}
		at[r] = place{i, j}
	}
	for i, b := range p.Blocks {
		for _, x := range b.Phis {
			set(x.Dst, i, 0)
		}
		for j, x := range b.Instrs {
			if r, ok := x.Sets(); ok {
				set(r, i, j+1)
			}
		}
	}
	for r := range len(at) {
		if _, ok := at[r]; !ok {
			t.Errorf("P16.1: %v: of %d registers %d isn't set", what, len(at), r)
		}
	}
	got := func(r, i, j int) {
		if s, ok := at[r]; !ok || s.block == i && s.instr > j || !w.over[s.block][i] {
			t.Errorf("P16.2: %v: %d isn't set ahead of %d in %d", what, r, j, p.Blocks[i].Label)
		}
	}
	for i, b := range p.Blocks {
		for _, x := range b.Phis {
			if !entriesAre(p, w.ahead[i], x) {
				t.Errorf("P16.2: %v: labels of %+v", what, x)
				continue
			}
			for k, label := range x.From {
				u := slices.IndexFunc(p.Blocks, func(b ir.Block) bool { return b.Label == label })
				got(x.Args[k], u, len(p.Blocks[u].Instrs))
			}
		}
		for j, x := range b.Instrs {
			for _, r := range x.Reads() {
				got(r, i, j)
			}
		}
		if r, ok := b.Last.Reads(); ok {
			got(r, i, len(b.Instrs))
		}
	}
}

// entriesAre: has a phi one of each block ahead, labels rising?
func entriesAre(p ir.Program, ahead []int, x ir.Phi) bool {
	var l []int
	for _, u := range ahead {
		l = append(l, p.Blocks[u].Label)
	}
	slices.Sort(l)
	return slices.Equal(x.From, l) && len(x.Args) == len(l)
}

// acts: with these inputs q does what p did, step by step: with so much fuel, and each time so much less, but for the step of a block put in ahead; and P3: within as many steps as it says.
func acts(t *testing.T, what any, p, q ir.Program, in []int64, most, less int) run.Outcome {
	t.Helper()
	more := 0
	if q.Blocks[0].Label != p.Blocks[0].Label {
		more = 1
	}
	for fuel := most; fuel >= 0; fuel -= less {
		o, r := run.Run(p, in, fuel), run.Run(q, in, fuel+more)
		if !run.Same(o, r) || o.Steps+more != r.Steps {
			t.Errorf("P16.2: %v, inputs %v, fuel %d: %+v, not %+v", what, in, fuel, r, o)
		}
		if o.End != run.Spent && (r.Steps > (o.Steps+1)*(q.Count()+1) || o.Steps > (r.Steps+1)*(p.Count()+1)) {
			t.Errorf("P3: %v, inputs %v: %d steps of %d", what, in, r.Steps, o.Steps)
		}
	}
	return run.Run(p, in, most)
}

// holds: Make of a plain program that may be, against the chapter's words; strict, if it is sure; the program is as it was.
func holds(t *testing.T, what any, p ir.Program) ir.Program {
	t.Helper()
	before := p.Clone()
	q := Make(p)
	is(t, "P16.1", what, q, plainMake(p))
	is(t, "R8: twice", what, Make(p), q)
	is(t, "R6: what was handed in", what, p, before)
	if sure.Check(p) == api.OK {
		strict(t, what, q)
	}
	return q
}

func phisOf(p ir.Program) int {
	n := 0
	for _, b := range p.Blocks {
		n += len(b.Phis)
	}
	return n
}

// all: all programs, block by block of a choice each.
func all(choice [][]ir.Block, row []ir.Block, see func(p ir.Program)) {
	if len(choice) == 0 {
		see(ir.Program{Blocks: row})
		return
	}
	for _, b := range choice[0] {
		all(choice[1:], append(row[:len(row):len(row)], b), see)
	}
}

// blocks: all of one label, of these rows of instructions, and ends on these labels.
func blocks(label int, bodies [][]ir.Instr, ends []ir.Last) []ir.Block {
	var l []ir.Block
	for _, body := range bodies {
		for _, end := range ends {
			l = append(l, block(label, end, body...))
		}
	}
	return l
}

// ends: all on labels, of registers.
func ends(labels []int, regs ...int) []ir.Last {
	l := []ir.Last{trap()}
	for _, r := range regs {
		l = append(l, ret(r))
	}
	for _, yes := range labels {
		l = append(l, jump(yes))
		for _, no := range labels {
			for _, r := range regs {
				l = append(l, branch(r, yes, no))
			}
		}
	}
	return l
}

// bits: some numbers, of which some are 0.
func bits(n int) []int64 {
	return []int64{int64(n & 1), int64(n & 2), int64(n & 4), int64(-n & 8)}
}

// P16.1, P16.2, P3: all programs of one and two blocks out of rows of instructions on two registers, and ends; also behind a block that sets both. One that isn't sure does what it did, too, as what isn't set is 0.
func TestSmall(t *testing.T) {
	add := ir.Instr{Kind: ir.Do, Op: word.Add, Dst: 1, A: 1, B: 0}
	bodies := [][]ir.Instr{nil, {input(0)}, {output(1)}, {output(0), input(1)}, {copied(1, 0), input(0)}, {add, output(1)}, {number(1, 7), copied(0, 1)}}
	count, phis := 0, 0
	see := func(p ir.Program) {
		if t.Failed() {
			return
		}
		q := holds(t, p, p)
		for n := range 2 {
			acts(t, p, p, q, bits(n*7+2), 14, 6)
		}
		if sure.Check(p) == api.OK {
			count++
			phis += phisOf(q)
		}
	}
	begin := [][]ir.Instr{{input(1), number(0, 3)}}
	for _, labels := range [][]int{{0}, {8, 3}} {
		var choice [][]ir.Block
		for _, label := range labels {
			choice = append(choice, blocks(label, bodies, ends(labels, 0, 1)))
		}
		all(choice, nil, see)
		all(append([][]ir.Block{blocks(5, begin, []ir.Last{jump(labels[0]), branch(1, labels[0], labels[len(labels)-1])})}, choice...), nil, see)
	}
	if count < 10000 || phis < 5000 {
		t.Errorf("%d sure programs, %d phis", count, phis)
	}
}

// P16.1, P16.2, P3: all ends of three blocks, and of four of which some do nothing, behind one that sets what they read.
func TestThreeAndFour(t *testing.T) {
	add := ir.Instr{Kind: ir.Do, Op: word.Add, Dst: 1, A: 1, B: 0}
	bodies := [][]ir.Instr{{output(1), input(0)}, {add, input(0), output(1)}, {input(0)}, {input(1), output(1), input(0)}}
	met := [run.Ends]int{}
	see := func(p ir.Program) {
		if t.Failed() {
			return
		}
		q := holds(t, p, p)
		for n := range 2 {
			met[acts(t, p, p, q, append(bits(n*7+3), 1, 0, 1, 1), 24, 9).End]++
		}
	}
	first := []ir.Block{block(7, jump(9), input(0), number(1, 1)), block(7, branch(0, 9, 2), input(0), copied(1, 0))}
	three := []int{9, 2, 4}
	one := []ir.Last{ret(1), jump(9), branch(0, 9, 4), branch(0, 4, 2), branch(1, 2, 9), jump(4), jump(2)}
	all([][]ir.Block{first, blocks(9, bodies[:3], ends(three, 0)), blocks(2, bodies[1:3], one), blocks(4, bodies[2:], one)}, nil, see)
	four := []ir.Last{branch(0, 9, 2), branch(0, 2, 4), branch(0, 4, 11), branch(0, 11, 9), jump(11)}
	all([][]ir.Block{first, blocks(9, bodies[:2], four), blocks(2, bodies[1:3], four), blocks(4, bodies[:1], four), blocks(11, bodies[2:], append(four, ret(1)))}, nil, see)
	if slices.Min(met[:]) < 1000 {
		t.Errorf("ends %v", met)
	}
}

// dice: a row of numbers that is the same each time.
func dice(seed uint64) func(n int) int {
	return func(n int) int {
		seed = seed*6364136223846793005 + 1442695040888963407
		return int(seed>>33) % n
	}
}

func anyInstr(roll func(int) int, registers int) ir.Instr {
	x := ir.Instr{Kind: ir.Kind(roll(int(ir.Kinds))), Op: word.Op(roll(int(word.Ops))), Dst: roll(registers), A: roll(registers), B: roll(registers), N: int64(roll(5) - 1), Slot: roll(3)}
	if x.Kind == ir.Do && x.Op.Traps() && roll(3) > 0 {
		x.Op = word.Sub
	}
	if x.Kind >= ir.Get && roll(3) > 0 {
		x.Kind = ir.Out
	}
	return x.Only()
}

// shuffled: n labels that lie apart, in any order.
func shuffled(roll func(int) int, n int) []int {
	var l []int
	for i := range n {
		l = append(l, i*3+roll(3))
	}
	for i := range l {
		k := i + roll(n-i)
		l[i], l[k] = l[k], l[i]
	}
	return l
}

// anyProgram: any plain program that may be, of n blocks of up to so many instructions; far: each goes on anywhere, or near.
func anyProgram(roll func(int) int, n, registers, instrs int, far bool) ir.Program {
	labels := shuffled(roll, n)
	var p ir.Program
	for i, label := range labels {
		to := func() int {
			if far {
				return labels[roll(n)]
			}
			return labels[min(max(i+roll(6)-2, 0), n-1)]
		}
		b := block(label, ir.Last{End: ir.End(roll(int(ir.Ends))), A: roll(registers), Yes: to(), No: to()})
		for range roll(instrs + 1) {
			b.Instrs = append(b.Instrs, anyInstr(roll, registers))
		}
		if b.Last.End >= ir.Return && roll(6) > 0 {
			b.Last.End = ir.Branch
		}
		b.Last = b.Last.Only()
		p.Blocks = append(p.Blocks, b)
	}
	return p
}

// begun: likewise, the first block beginning with all registers set.
func begun(roll func(int) int, p ir.Program, registers int) ir.Program {
	var l []ir.Instr
	for r := range registers {
		l = append(l, number(r, int64(roll(4)-1)))
	}
	p.Blocks[0].Instrs = append(l, p.Blocks[0].Instrs...)
	return p
}

func anyInputs(roll func(int) int) []int64 {
	var in []int64
	for range roll(12) {
		in = append(in, int64(roll(5)-1))
	}
	return in
}

// P16.1, P16.2, P3: any plain programs, sure ones and others, some with slots as registers.
func TestAny(t *testing.T) {
	var met [run.Ends]int
	count, phis, put, left := 0, 0, 0, 0
	for seed := range 6000 {
		roll := dice(uint64(seed) + 41)
		registers := 1 + roll(6)
		p := anyProgram(roll, 1+roll(12), registers, 4, seed%2 == 0)
		if seed%4 > 0 {
			p = begun(roll, p, registers)
		}
		if seed%3 == 0 {
			p = slots.Lift(p)
		}
		what := fmt.Sprintf("any program, %d: %+v", seed, p)
		q := holds(t, what, p)
		for range 3 {
			met[acts(t, what, p, q, anyInputs(roll), 60, 1+roll(20)).End]++
		}
		if t.Failed() {
			return
		}
		if sure.Check(p) != api.OK {
			continue
		}
		count++
		phis += phisOf(q)
		if q.Blocks[0].Label != p.Blocks[0].Label {
			put++
		}
		if len(q.Blocks) < len(p.Blocks) {
			left++
		}
	}
	if slices.Min(append(met[:], count, phis, put, left)) < 500 {
		t.Errorf("ends %v, %d sure, %d phis, %d put in, %d with blocks left out", met, count, phis, put, left)
	}
}

// P16.1, P16.2, P3: many blocks and registers.
func TestAnyMany(t *testing.T) {
	for seed := range 60 {
		roll := dice(uint64(seed) + 77)
		registers := 5 + roll(60)
		p := begun(roll, anyProgram(roll, 60, registers, 8, seed%3 == 0), registers)
		what := fmt.Sprint("many, ", seed)
		acts(t, what, p, holds(t, what, p), anyInputs(roll), 200, 7)
	}
	for seed := range 4 {
		roll := dice(uint64(seed) + 99)
		registers := 20 + roll(20)
		p := begun(roll, anyProgram(roll, api.MaxBlocks-seed, registers, 7, seed%2 == 0), registers)
		what := fmt.Sprint("as many blocks as may be, ", seed)
		acts(t, what, p, holds(t, what, p), anyInputs(roll), 500, 11)
	}
}
