package slots

import (
	"fmt"
	"math"
	"strconv"
	"strings"
	"testing"

	"refinery/api"
	"refinery/ir"
	"refinery/parse"
	"refinery/word"
)

func jump(to int) ir.Last           { return ir.Last{End: ir.Jump, Yes: to} }
func branch(a, yes, no int) ir.Last { return ir.Last{End: ir.Branch, A: a, Yes: yes, No: no} }
func ret(a int) ir.Last             { return ir.Last{End: ir.Return, A: a} }
func trap() ir.Last                 { return ir.Last{End: ir.Trap} }

func load(dst, slot int) ir.Instr      { return ir.Instr{Kind: ir.Load, Dst: dst, Slot: slot} }
func store(slot, a int) ir.Instr       { return ir.Instr{Kind: ir.Store, A: a, Slot: slot} }
func copied(dst, a int) ir.Instr       { return ir.Instr{Kind: ir.Copy, Dst: dst, A: a} }
func number(dst int, n int64) ir.Instr { return ir.Instr{Kind: ir.Const, Dst: dst, N: n} }

func block(label int, l ir.Last, instrs ...ir.Instr) ir.Block {
	return ir.Block{Label: label, Instrs: instrs, Last: l}
}

func program(l ...ir.Block) ir.Program { return ir.Program{Blocks: l} }

// read: a text's program, that may be.
func read(t *testing.T, text string) ir.Program {
	t.Helper()
	p, at, err := parse.Parse(text)
	if err != api.OK {
		t.Fatalf("error %d at %d of %s", err, at, text)
	}
	return p
}

func may(t *testing.T, what any, p ir.Program) {
	t.Helper()
	if err := p.Check(); err != api.OK {
		t.Fatalf("%v: error %d: %+v", what, err, p)
	}
}

func is(t *testing.T, what any, p, want ir.Program) {
	t.Helper()
	if !ir.Same(p, want) {
		t.Errorf("%v:\n%+v, not\n%+v", what, p, want)
	}
}

// lifts: what Lift makes of a program that may be; done again nothing is changed, as nothing is left to be done; the program is as it was.
func lifts(t *testing.T, what any, p, want ir.Program) {
	t.Helper()
	may(t, what, p)
	before := p.Clone()
	q := Lift(p)
	is(t, fmt.Sprint("P15.1: Lift: ", what), q, want)
	is(t, fmt.Sprint("P15.1: Lift, again: ", what), Lift(q), want)
	is(t, fmt.Sprint("R8: Lift, twice: ", what), Lift(p), want)
	is(t, fmt.Sprint("R6: what was handed in: ", what), p, before)
	if l := Used(q); l != ([api.Slots]bool{}) {
		t.Errorf("P15.2: Lift: %v: slots are left: %v", what, l)
	}
}

// of: which slots are used, slot by slot.
func of(slots ...int) (used [api.Slots]bool) {
	for _, s := range slots {
		used[s] = true
	}
	return used
}

func uses(t *testing.T, what any, p ir.Program, slots ...int) {
	t.Helper()
	before := p.Clone()
	if l := Used(p); l != of(slots...) {
		t.Errorf("P15.1: Used: %v: %v, not %v", what, l, slots)
	}
	is(t, fmt.Sprint("R6: Used: what was handed in: ", what), p, before)
}

// others: an instruction of each kind that isn't at a slot.
const others = "%1 = -5\n%2 = %1\n%3 = add %1, %2\n%3 = div %3, %1\n%4 = in\nout %4\n%5 = get %1\nput %1, %2\n"

// P15.1: Used of each slot, loaded or stored; of several, of all, of none; in whichever block.
func TestUsed(t *testing.T) {
	uses(t, "an end alone", read(t, "@0:\ntrap"))
	uses(t, "all else", read(t, "@0:\n"+others+"br %1, @0, @3\n@3:\nret %1"))
	for s := range api.Slots {
		uses(t, "a load", read(t, fmt.Sprintf("@0:\n%%1 = load $%d\ntrap", s)), s)
		uses(t, "a store", read(t, fmt.Sprintf("@0:\n%%1 = 7\nstore $%d, %%1\ntrap", s)), s)
		uses(t, "both", read(t, fmt.Sprintf("@0:\n%%1 = load $%d\nstore $%d, %%1\ntrap", s, (s+5)%16)), s, (s+5)%16)
		uses(t, "the last of the last block", read(t, fmt.Sprintf("@0:\n%sjump @7\n@7:\n%s%%1 = load $%d\nret %%1", others, others, s)), s)
	}
	uses(t, "one twice", read(t, "@0:\n%1 = load $3\nstore $3, %1\n%2 = load $3\nret %1"), 3)
	uses(t, "in a block that isn't reached", read(t, "@0:\ntrap\n@1:\n%1 = load $4\nstore $9, %1\njump @1"), 4, 9)
	all := program(block(0, trap()))
	var l []int
	for s := range api.Slots {
		all.Blocks[0].Instrs = append(all.Blocks[0].Instrs, load(1, s))
		l = append(l, s)
	}
	uses(t, "all", all, l...)
}

// P15.1, P1: Used of programs that may not be: slots that there aren't are none; what stands as Slot where a kind has none is none.
func TestUsedWrong(t *testing.T) {
	uses(t, "no blocks", ir.Program{})
	uses(t, "no blocks, empty", ir.Program{Blocks: []ir.Block{}})
	for _, s := range []int{math.MinInt, -65536, -16, -1, 16, 17, 256, 65536, 1 << 32, math.MaxInt} {
		uses(t, s, program(block(0, trap(), load(1, s), store(s, 1))))
		uses(t, s, program(block(0, trap(), load(1, s), load(1, 3), store(s, 1), store(5, 1))), 3, 5)
	}
	for k := range 256 {
		kind := ir.Kind(k)
		p := program(block(0, trap(), ir.Instr{Kind: kind, Slot: 3}))
		if kind == ir.Load || kind == ir.Store {
			uses(t, kind, p, 3)
		} else {
			uses(t, kind, p)
		}
	}
	uses(t, "one label, no label", program(block(-1, jump(7), load(-1, 2)), block(-1, ret(-1), store(1, 1<<40))), 1, 2)
	many := ir.Program{Blocks: make([]ir.Block, 3*api.MaxBlocks)}
	many.Blocks[3*api.MaxBlocks-1].Instrs = []ir.Instr{load(1, 15)}
	uses(t, "many blocks", many, 15)
}

// P15.1: the chapter's example, and one of each kind.
func TestExample(t *testing.T) {
	lifts(t, "without slots", read(t, "@0:\n"+others+"ret %1"), read(t, "@0:\n"+others+"ret %1"))
	lifts(t, "without slots, one comes back", read(t, "@0:\n"+others+"jump @0"), read(t, "@1:\njump @0\n@0:\n"+others+"jump @0"))
	lifts(t, "in, store, load",
		program(ir.Block{Instrs: []ir.Instr{{Kind: ir.In, Dst: 1}, store(3, 1), load(0, 3)}, Last: ret(0)}),
		program(ir.Block{Instrs: []ir.Instr{number(5, 0), {Kind: ir.In, Dst: 1}, copied(5, 1), copied(0, 5)}, Last: ret(0)}))
}

// P15.1: what becomes of loads and stores, where the numbers stand, and that all else stays.
func TestLift(t *testing.T) {
	for _, c := range []struct{ name, src, want string }{
		{"an end alone", "@0:\ntrap", "@0:\ntrap"},
		{"a load", "@0:\n%0 = load $0\ntrap", "@0:\n%1 = 0\n%0 = %1\ntrap"},
		{"a load of another slot", "@0:\n%0 = load $2\ntrap", "@0:\n%3 = 0\n%0 = %3\ntrap"},
		{"a store", "@0:\n%0 = 7\nstore $0, %0\ntrap", "@0:\n%1 = 0\n%0 = 7\n%1 = %0\ntrap"},
		{"a store to another slot", "@0:\n%0 = 7\nstore $15, %0\ntrap", "@0:\n%16 = 0\n%0 = 7\n%16 = %0\ntrap"},
		{"one slot to itself", "@0:\n%4 = load $1\nstore $1, %4\nret %4", "@0:\n%6 = 0\n%4 = %6\n%6 = %4\nret %4"},
		{"several, falling", "@0:\n%1 = load $9\n%1 = load $4\nstore $0, %1\n%1 = load $9\nret %1",
			"@0:\n%2 = 0\n%6 = 0\n%11 = 0\n%1 = %11\n%1 = %6\n%2 = %1\n%1 = %11\nret %1"},
		{"all else stays", "@0:\n" + others + "%9 = load $1\n" + others + "store $2, %9\n" + others + "ret %9",
			"@0:\n%11 = 0\n%12 = 0\n" + others + "%9 = %11\n" + others + "%12 = %9\n" + others + "ret %9"},
		{"numbers, though it is stored first", "@0:\n%1 = in\nstore $0, %1\n%2 = load $0\nret %2", "@0:\n%3 = 0\n%1 = in\n%3 = %1\n%2 = %3\nret %2"},
		{"blocks, each branch", "@5:\n%1 = in\nbr %1, @3, @9\n@3:\nstore $2, %1\njump @9\n@9:\n%1 = load $2\nout %1\nret %1",
			"@5:\n%4 = 0\n%1 = in\nbr %1, @3, @9\n@3:\n%4 = %1\njump @9\n@9:\n%1 = %4\nout %1\nret %1"},
		{"the first is empty", "@5:\njump @3\n@3:\n%1 = load $2\nret %1", "@5:\n%4 = 0\njump @3\n@3:\n%1 = %4\nret %1"},
		{"a block that isn't reached", "@5:\n%1 = load $3\nret %1\n@3:\n%2 = load $1\nstore $5, %2\njump @3", "@5:\n%4 = 0\n%6 = 0\n%8 = 0\n%1 = %6\nret %1\n@3:\n%2 = %4\n%8 = %2\njump @3"},
		{"the first goes on at itself", "@5:\n%1 = load $2\nstore $2, %1\nbr %1, @5, @6\n@6:\nret %1", "@7:\n%4 = 0\njump @5\n@5:\n%1 = %4\n%4 = %1\nbr %1, @5, @6\n@6:\nret %1"},
		{"one comes back to the first", "@5:\n%1 = load $2\njump @6\n@6:\nstore $1, %1\njump @5", "@7:\n%3 = 0\n%4 = 0\njump @5\n@5:\n%1 = %4\njump @6\n@6:\n%3 = %1\njump @5"},
		{"one that isn't reached goes on at the first", "@5:\n%1 = load $2\nret %1\n@3:\njump @5", "@6:\n%4 = 0\njump @5\n@5:\n%1 = %4\nret %1\n@3:\njump @5"},
		{"one comes back to another", "@5:\n%1 = load $2\njump @6\n@6:\nstore $1, %1\njump @6", "@5:\n%3 = 0\n%4 = 0\n%1 = %4\njump @6\n@6:\n%3 = %1\njump @6"},
	} {
		lifts(t, c.name, read(t, c.src), read(t, c.want))
	}
}

// P15.1: the registers are counted from one above the greatest, wherever that one is set or read.
func TestRegs(t *testing.T) {
	load := func(regs int) string { return fmt.Sprintf("%%1 = %%%d\n", regs+2) }
	zero := func(regs int) string { return fmt.Sprintf("%%%d = 0\n", regs+2) }
	for _, r := range []int{2, 7, 500, 99984} {
		for _, s := range []string{"%? = 5", "%? = %0", "%1 = %?", "%? = add %0, %0", "%1 = add %?, %0", "%1 = add %0, %?", "%? = in", "out %?", "%? = get %0", "%1 = get %?", "put %?, %0", "put %0, %?"} {
			s = filled(s, r) + "\n"
			lifts(t, s, read(t, "@0:\n%1 = load $2\n"+s+"ret %1"), read(t, "@0:\n"+zero(r+1)+load(r+1)+s+"ret %1"))
			lifts(t, s+", behind", read(t, "@0:\n%1 = load $2\njump @4\n@4:\n"+s+"ret %1"), read(t, "@0:\n"+zero(r+1)+load(r+1)+"jump @4\n@4:\n"+s+"ret %1"))
		}
		for _, s := range []string{"ret %?", "br %?, @4, @4"} {
			s = filled(s, r) + "\n@4:\ntrap"
			lifts(t, s, read(t, "@0:\n%1 = load $2\n"+s), read(t, "@0:\n"+zero(r+1)+load(r+1)+s))
		}
		lifts(t, "by a load", read(t, filled("@0:\n%? = load $1\nret %1", r)), read(t, fmt.Sprintf("@0:\n%%%d = 0\n%%%d = %%%d\nret %%1", r+2, r, r+2)))
		lifts(t, "by a store", read(t, filled("@0:\nstore $1, %?\nret %1", r)), read(t, fmt.Sprintf("@0:\n%%%d = 0\n%%%d = %%%d\nret %%1", r+2, r+2, r)))
	}
}

// filled: a text, a register where a ? stands.
func filled(s string, r int) string { return strings.ReplaceAll(s, "?", strconv.Itoa(r)) }

// P15.1: each slot is a register of its own: Regs and it.
func TestEachSlot(t *testing.T) {
	var instrs []ir.Instr
	for s := range api.Slots {
		lifts(t, s, program(block(7, ret(4), load(4, s), store(s, 2))), program(block(7, ret(4), number(5+s, 0), copied(4, 5+s), copied(5+s, 2))))
		for k := range api.Slots {
			if k > s {
				lifts(t, []int{s, k}, program(block(7, ret(4), store(k, 1), load(3, s))), program(block(7, ret(4), number(5+s, 0), number(5+k, 0), copied(5+k, 1), copied(3, 5+s))))
			}
		}
		instrs = append(instrs, store(15-s, 1))
	}
	var want []ir.Instr
	for s := range api.Slots {
		want = append(want, number(2+s, 0))
	}
	for s := range api.Slots {
		want = append(want, copied(17-s, 1))
	}
	lifts(t, "all", program(block(7, ret(1), instrs...)), program(block(7, ret(1), want...)))
}

// P15.1: labels, Front's among them, where the greatest isn't the first's nor the last's.
func TestFrontLabel(t *testing.T) {
	p := program(block(3, branch(1, 8, 5), load(1, 0)), block(8, jump(3)), block(5, ret(1)))
	want := program(block(9, jump(3), number(2, 0)), block(3, branch(1, 8, 5), copied(1, 2)), block(8, jump(3)), block(5, ret(1)))
	lifts(t, "labels", p, want)
	p = program(block(99998, jump(99998), load(1, 0)))
	lifts(t, "the last label", p, program(block(99999, jump(99998), number(2, 0)), block(99998, jump(99998), copied(1, 2))))
}

// P15.1: an instruction with all that its kind has, beside a load: nothing of it is changed, whatever its registers are.
func TestOthersStay(t *testing.T) {
	for k := range ir.Kinds {
		for op := range word.Ops {
			x := ir.Instr{Kind: k, Op: op, Dst: 3, A: 1, B: 2, N: -9, Slot: 6}.Only()
			if k == ir.Load || k == ir.Store {
				continue
			}
			lifts(t, x, program(block(0, ret(3), load(3, 6), x)), program(block(0, ret(3), number(10, 0), copied(3, 10), x)))
		}
	}
}
