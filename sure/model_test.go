package sure

import (
	"fmt"
	"slices"
	"testing"

	"refinery/api"
	"refinery/bag"
	"refinery/ir"
	"refinery/parse"
	"refinery/word"
)

// setOf, readsOf, endReads: chapter 3's words on instructions and ends, kind by kind.
func setOf(x ir.Instr) (int, bool) {
	switch x.Kind {
	case ir.Const, ir.Copy, ir.Do, ir.In, ir.Load, ir.Get:
		return x.Dst, true
	}
	return 0, false
}

func readsOf(x ir.Instr) []int {
	switch x.Kind {
	case ir.Copy, ir.Out, ir.Store, ir.Get:
		return []int{x.A}
	case ir.Do, ir.Put:
		return []int{x.A, x.B}
	}
	return nil
}

func endReads(l ir.Last) []int {
	if l.End == ir.Branch || l.End == ir.Return {
		return []int{l.A}
	}
	return nil
}

// next: the places of the blocks at which a block goes on; of blocks with one label the first one.
func next(p ir.Program, b ir.Block) []int {
	var labels []int
	switch b.Last.End {
	case ir.Jump:
		labels = []int{b.Last.Yes}
	case ir.Branch:
		labels = []int{b.Last.Yes, b.Last.No}
	}
	var places []int
	for _, label := range labels {
		if i := slices.IndexFunc(p.Blocks, func(c ir.Block) bool { return c.Label == label }); i >= 0 {
			places = append(places, i)
		}
	}
	return places
}

// come is that one has come to a block's beginning with some registers set, a bit each.
type come struct {
	place int
	set   uint64
}

// ways: all ways from the first block's beginning are gone, with what is set on them, till none comes to where another one has come with the same registers. Those of each block, and whether a register is read on one of them ahead of being set.
func ways(p ir.Program) (at [][]uint64, unset bool) {
	at = make([][]uint64, len(p.Blocks))
	seen := map[come]bool{}
	var open []come
	meet := func(c come) {
		if !seen[c] {
			seen[c] = true
			open = append(open, c)
			at[c.place] = append(at[c.place], c.set)
		}
	}
	if len(p.Blocks) > 0 {
		meet(come{})
	}
	for len(open) > 0 {
		c := open[0]
		open = open[1:]
		b, set := p.Blocks[c.place], c.set
		for _, x := range b.Instrs {
			for _, r := range readsOf(x) {
				unset = unset || set>>r&1 == 0
			}
			if r, ok := setOf(x); ok {
				set |= 1 << r
			}
		}
		for _, r := range endReads(b.Last) {
			unset = unset || set>>r&1 == 0
		}
		for _, i := range next(p, b) {
			meet(come{i, set})
		}
	}
	return at, unset
}

// plain: the sets by P12.1's own words, of a plain program that may be, of registers below 64: what is set on each way to a block's beginning; and what Check says.
func plain(p ir.Program) ([][]int, api.Errno) {
	at, unset := ways(p)
	sets := make([][]int, len(p.Blocks))
	for i, l := range at {
		if len(l) == 0 {
			continue
		}
		each := l[0]
		for _, set := range l {
			each &= set
		}
		for r := range 64 {
			if each>>r&1 == 1 {
				sets[i] = append(sets[i], r)
			}
		}
	}
	if unset {
		return sets, api.ErrUnset
	}
	return sets, api.OK
}

// lists: sets as lists.
func lists(l []bag.Set[int]) [][]int {
	all := make([][]int, len(l))
	for i, s := range l {
		all[i] = s.List()
	}
	return all
}

func sameLists(a, b [][]int) bool {
	return slices.EqualFunc(a, b, func(l, m []int) bool { return slices.Equal(l, m) })
}

// are: are a program's sets these?
func are(t *testing.T, what any, s []bag.Set[int], want [][]int) {
	t.Helper()
	if !sameLists(lists(s), want) {
		t.Errorf("P12.1: Set: %v: %v, not %v", what, lists(s), want)
	}
}

func checks(t *testing.T, what any, p ir.Program, want api.Errno) {
	t.Helper()
	if err := Check(p); err != want {
		t.Errorf("P12.1: Check: %v: error %d, not %d", what, err, want)
	}
}

// holds: a program's sets, and whether it is sure, against the plain way's.
func holds(t *testing.T, what any, p ir.Program) {
	t.Helper()
	sets, err := plain(p)
	are(t, what, Set(p), sets)
	checks(t, what, p, err)
}

// read: a text's program, that may be.
func read(t *testing.T, text string) ir.Program {
	t.Helper()
	p, at, err := parse.Parse(text)
	if err != api.OK {
		t.Fatalf("error %d at %d of %s", err, at, text)
	}
	return p
}

func may(t *testing.T, p ir.Program) {
	t.Helper()
	if err := p.Check(); err != api.OK {
		t.Fatalf("error %d: %v", err, p)
	}
}

// dice: a row of numbers that is the same each time.
func dice(seed uint64) func(n int) int {
	return func(n int) int {
		seed = seed*6364136223846793005 + 1442695040888963407
		return int(seed>>33) % n
	}
}

// bodies: rows of instructions that set and read two registers in all ways.
func bodies() [][]ir.Instr {
	in, out := ir.Instr{Kind: ir.In}, ir.Instr{Kind: ir.Out}
	return [][]ir.Instr{
		nil,
		{in},
		{out},
		{out, in},
		{in, out},
		{{Kind: ir.In, Dst: 1}},
		{{Kind: ir.Copy, Dst: 1}},
		{{Kind: ir.Do, Op: word.Add, A: 1, B: 0}},
		{in, {Kind: ir.Copy, Dst: 1}, {Kind: ir.Put, A: 1}},
	}
}

// ends: all ends that go on at some of n blocks, that read one of two registers.
func ends(n int) []ir.Last {
	l := []ir.Last{{End: ir.Trap}, {End: ir.Return}, {End: ir.Return, A: 1}}
	for yes := range n {
		l = append(l, ir.Last{End: ir.Jump, Yes: yes})
		for no := range n {
			l = append(l, ir.Last{End: ir.Branch, Yes: yes, No: no}, ir.Last{End: ir.Branch, A: 1, Yes: yes, No: no})
		}
	}
	return l
}

// all: each row of n blocks out of a choice each.
func all(t *testing.T, choice [][]ir.Block, row []ir.Block) {
	if t.Failed() {
		return
	}
	if len(choice) == 0 {
		p := ir.Program{Blocks: row}
		sets, err := plain(p)
		if s := Set(p); !sameLists(lists(s), sets) {
			t.Errorf("P12.1: Set: %+v: %v, not %v", p, lists(s), sets)
		}
		if e := Check(p); e != err {
			t.Errorf("P12.1: Check: %+v: error %d, not %d", p, e, err)
		}
		return
	}
	for _, b := range choice[0] {
		all(t, choice[1:], append(row[:len(row):len(row)], b))
	}
}

// P12.1: all programs of one and of two blocks out of rows of instructions and ends.
func TestSmall(t *testing.T) {
	for n := 1; n <= 2; n++ {
		var choice [][]ir.Block
		for label := range n {
			var l []ir.Block
			for _, body := range bodies() {
				for _, end := range ends(n) {
					l = append(l, ir.Block{Label: label, Instrs: body, Last: end})
				}
			}
			choice = append(choice, l)
		}
		all(t, choice, nil)
	}
}

// P12.1: all programs of three blocks, of which each sets a register, reads it, or leaves it alone, and goes on anywhere or ends; of four that set it or leave it alone, and go on: two of them anywhere, two at one or at neighbours.
func TestThreeAndFour(t *testing.T) {
	for n := 3; n <= 4; n++ {
		var choice [][]ir.Block
		for label := range n {
			var l []ir.Block
			for _, body := range bodies()[:6-n] {
				for yes := range n {
					for no := range n {
						last := ir.Last{End: ir.Branch, Yes: yes, No: no}
						if yes == no {
							last = ir.Last{End: ir.Jump, Yes: yes}
						}
						if yes > no || n == 4 && label > 1 && yes != no && no != yes+1 {
							continue
						}
						l = append(l, ir.Block{Label: label, Instrs: body, Last: last})
					}
				}
				if n == 3 {
					l = append(l, ir.Block{Label: label, Instrs: body, Last: ir.Last{End: ir.Return}}, ir.Block{Label: label, Instrs: body, Last: ir.Last{End: ir.Trap}})
				}
			}
			choice = append(choice, l)
		}
		all(t, choice, nil)
	}
}

// anyInstr: an instruction of any kind, of some registers; more of them set one than read one.
func anyInstr(roll func(int) int, n int) ir.Instr {
	x := ir.Instr{Kind: ir.Kind(roll(int(ir.Kinds))), Op: word.Op(roll(int(word.Ops))), Dst: roll(n), A: roll(n), B: roll(n), N: int64(roll(9)), Slot: roll(api.Slots)}
	if roll(2) == 0 {
		x.Kind = ir.In
	}
	return x.Only()
}

// anyProgram: any plain program that may be, of n blocks whose labels neither begin at 0 nor rise.
func anyProgram(roll func(int) int, n, registers int) ir.Program {
	label := func(i int) int { return 90000 - i*7 }
	var p ir.Program
	for i := range n {
		b := ir.Block{Label: label(i)}
		for range roll(5) {
			b.Instrs = append(b.Instrs, anyInstr(roll, registers))
		}
		yes, no := roll(n), min(i+roll(3), n-1)
		b.Last = ir.Last{End: ir.End(roll(int(ir.Ends))), A: roll(registers), Yes: label(yes), No: label(no)}
		if b.Last.End >= ir.Return && roll(3) > 0 {
			b.Last.End = ir.Branch
		}
		b.Last = b.Last.Only()
		p.Blocks = append(p.Blocks, b)
	}
	return p
}

// mended: likewise, with all that is read set in the first block but for a few registers, so that many are sure and some nearly.
func mended(roll func(int) int, p ir.Program, registers int) ir.Program {
	p = p.Clone()
	var begin []ir.Instr
	left := roll(registers + 1)
	for r := range registers {
		if r != left {
			begin = append(begin, ir.Instr{Kind: ir.Const, Dst: r})
		}
	}
	p.Blocks[0].Instrs = append(begin, p.Blocks[0].Instrs...)
	return p
}

// P12.1: any programs: their sets, and whether they are sure; some are, some aren't.
func TestAny(t *testing.T) {
	sure, unsure := 0, 0
	for seed := range 6000 {
		roll := dice(uint64(seed) + 5)
		registers := 1 + roll(7)
		p := anyProgram(roll, 1+roll(10), registers)
		for range 2 {
			may(t, p)
			holds(t, fmt.Sprintf("any program, %d: %+v", seed, p), p)
			if t.Failed() {
				return
			}
			if Check(p) == api.OK {
				sure++
			} else {
				unsure++
			}
			p = mended(roll, p, registers)
		}
	}
	if sure < 1000 || unsure < 1000 {
		t.Errorf("P12.1: any programs: %d sure, %d not", sure, unsure)
	}
}

// meets: the greatest sets such that the first one's is empty and each other one's is what all blocks ahead of it that are reached have at their ends. A second plain way, of many blocks and registers.
func meets(p ir.Program) []map[int]bool {
	ends, sets := make([]map[int]bool, len(p.Blocks)), make([]map[int]bool, len(p.Blocks))
	for changed := true; changed; {
		changed = false
		for i, b := range p.Blocks {
			if i == 0 {
				sets[i] = map[int]bool{}
			}
			if sets[i] == nil {
				continue
			}
			end := map[int]bool{}
			for r := range sets[i] {
				end[r] = true
			}
			for _, x := range b.Instrs {
				if r, ok := setOf(x); ok {
					end[r] = true
				}
			}
			changed = changed || ends[i] == nil || len(end) != len(ends[i])
			ends[i] = end
			for _, k := range next(p, b) {
				changed = both(sets, k, end) || changed
			}
		}
	}
	return sets
}

// both: a block's set keeps what is in another one, too; nil is all registers.
func both(sets []map[int]bool, k int, end map[int]bool) bool {
	if sets[k] == nil {
		sets[k] = map[int]bool{}
		for r := range end {
			sets[k][r] = true
		}
		return true
	}
	changed := false
	for r := range sets[k] {
		if !end[r] {
			delete(sets[k], r)
			changed = true
		}
	}
	return changed
}

// P12.1: many blocks and registers, against the second plain way; and this one against the first.
func TestAnyMany(t *testing.T) {
	many := func(what string, p ir.Program) {
		may(t, p)
		var want [][]int
		for _, m := range meets(p) {
			var l []int
			for r := range m {
				l = append(l, r)
			}
			slices.Sort(l)
			want = append(want, l)
		}
		are(t, what, Set(p), want)
		if p.Regs() <= 8 {
			first, _ := plain(p)
			if !sameLists(first, want) {
				t.Errorf("%s: the plain ways: %v, %v", what, first, want)
			}
		}
	}
	for seed := range 300 {
		roll := dice(uint64(seed) + 77)
		many(fmt.Sprint("8 blocks, ", seed), anyProgram(roll, 8, 6))
	}
	for seed := range 40 {
		roll := dice(uint64(seed) + 99)
		many(fmt.Sprint("60 blocks, ", seed), anyProgram(roll, 60, 30+roll(200)))
		many(fmt.Sprint("400 blocks, ", seed), anyProgram(roll, 400, 100+roll(2000)))
	}
}
