package fold

import (
	"fmt"
	"maps"
	"math"
	"slices"
	"testing"

	"refinery/api"
	"refinery/ir"
	"refinery/strict"
	"refinery/word"
)

func jump(to int) ir.Last           { return ir.Last{End: ir.Jump, Yes: to} }
func branch(a, yes, no int) ir.Last { return ir.Last{End: ir.Branch, A: a, Yes: yes, No: no} }
func ret(a int) ir.Last             { return ir.Last{End: ir.Return, A: a} }
func trap() ir.Last                 { return ir.Last{End: ir.Trap} }

func copied(dst, a int) ir.Instr { return ir.Instr{Kind: ir.Copy, Dst: dst, A: a} }
func input(dst int) ir.Instr     { return ir.Instr{Kind: ir.In, Dst: dst} }
func output(a int) ir.Instr      { return ir.Instr{Kind: ir.Out, A: a} }
func do(o word.Op, dst, a, b int) ir.Instr {
	return ir.Instr{Kind: ir.Do, Op: o, Dst: dst, A: a, B: b}
}

func block(label int, l ir.Last, instrs ...ir.Instr) ir.Block {
	return ir.Block{Label: label, Instrs: instrs, Last: l}
}

func program(l ...ir.Block) ir.Program { return ir.Program{Blocks: l} }

// phi: of entries, each a label and a register.
func phi(dst int, entries ...[2]int) ir.Phi {
	x := ir.Phi{Dst: dst}
	for _, e := range entries {
		x.From, x.Args = append(x.From, e[0]), append(x.Args, e[1])
	}
	return x
}

func with(b ir.Block, l ...ir.Phi) ir.Block {
	b.Phis = append(b.Phis, l...)
	return b
}

func known(n int64) Fact { return Fact{State: Known, N: n} }

// none and every are the facts that have no number.
var (
	none  = Fact{}
	every = Fact{State: Any}
)

// told: without those of which nothing is known, as these may be told or not.
func told(facts map[int]Fact) map[int]Fact {
	l := maps.Clone(facts)
	maps.DeleteFunc(l, func(_ int, f Fact) bool { return f == none })
	return l
}

// tells: what Facts tells of a strict program, and the chapter's words do, too; blocks by their places.
func tells(t *testing.T, what any, p ir.Program, blocks []int, want map[int]Fact) {
	t.Helper()
	if err := strict.Check(p); err != api.OK {
		t.Fatalf("%v: it isn't strict: error %d", what, err)
	}
	there := make([]bool, len(p.Blocks))
	for _, i := range blocks {
		there[i] = true
	}
	facts, met := Facts(p)
	if !slices.Equal(met, there) || !maps.Equal(told(facts), told(want)) {
		t.Errorf("P18.1: %v: %v %v, not %v %v", what, met, facts, there, want)
	}
	if r := plainFacts(p); !slices.Equal(r.there, there) || !maps.Equal(told(r.facts), told(want)) {
		t.Errorf("P18.1: %v: by the chapter's words %v", what, r)
	}
	holds(t, what, p)
}

// P18.1: Meet: the other, if one is Unknown; it, if they are the same; else Any.
func TestMeet(t *testing.T) {
	five, six := known(5), known(6)
	for _, x := range []struct{ a, b, want Fact }{
		{none, none, none}, {none, five, five}, {none, known(0), known(0)}, {none, every, every},
		{five, five, five}, {five, six, every}, {five, known(-5), every}, {five, known(0), every}, {known(0), known(0), known(0)},
		{known(math.MinInt64), known(math.MinInt64), known(math.MinInt64)}, {known(math.MinInt64), known(math.MaxInt64), every},
		{five, every, every}, {known(0), every, every}, {every, every, every},
	} {
		if f, g := Meet(x.a, x.b), Meet(x.b, x.a); f != x.want || g != x.want {
			t.Errorf("P18.1: Meet of %v, %v: %v, %v, not %v", x.a, x.b, f, g, x.want)
		}
	}
}

// P1, P18.1: Meet, whatever the states and numbers, by its words alone.
func TestMeetAny(t *testing.T) {
	var all []Fact
	for _, s := range []State{Unknown, Known, Any, 3, 255} {
		for _, n := range []int64{0, 1, -1, math.MinInt64, math.MaxInt64} {
			all = append(all, Fact{s, n})
		}
	}
	for _, a := range all {
		for _, b := range all {
			f := Meet(a, b)
			switch {
			case a.State == Unknown && b.State == Unknown:
				if f != a && f != b {
					t.Errorf("P18.1: Meet of %v, %v: %v", a, b, f)
				}
			case a.State == Unknown && f != b, b.State == Unknown && f != a:
				t.Errorf("P18.1: Meet of %v, %v: %v, not the other", a, b, f)
			case a.State != Unknown && b.State != Unknown && a == b && f != a:
				t.Errorf("P18.1: Meet of %v, %v: %v, not it", a, b, f)
			case a.State != Unknown && b.State != Unknown && a != b && f != every:
				t.Errorf("P18.1: Meet of %v, %v: %v, not Any", a, b, f)
			}
		}
	}
}

// P18.1: the chapter's example.
func TestExample(t *testing.T) {
	p := program(block(0, ret(1), number(0, 2), do(word.Add, 1, 0, 0)))
	tells(t, "the example", p, []int{0}, map[int]Fact{0: known(2), 1: known(4)})
	folds(t, "the example", p, "@0:\n  %0 = 2\n  %1 = 4\n  ret %1\n")
}

// P18.1: Const, Copy, and what else sets.
func TestSets(t *testing.T) {
	least, most := int64(math.MinInt64), int64(math.MaxInt64)
	tells(t, "an end alone", program(block(3, trap())), []int{0}, nil)
	tells(t, "numbers", program(block(3, trap(), number(5, least), number(4, most), number(99999, 0), number(0, -1))), []int{0},
		map[int]Fact{5: known(least), 4: known(most), 99999: known(0), 0: known(-1)})
	tells(t, "copies", program(block(3, trap(), number(5, 7), copied(4, 5), copied(3, 4), input(2), copied(1, 2), copied(0, 1))), []int{0},
		map[int]Fact{5: known(7), 4: known(7), 3: known(7), 2: every, 1: every, 0: every})
	tells(t, "others", program(block(3, trap(), number(5, 7), ir.Instr{Kind: ir.Store, A: 5, Slot: 2}, ir.Instr{Kind: ir.Load, Dst: 4, Slot: 2}, ir.Instr{Kind: ir.Put, A: 5, B: 5}, ir.Instr{Kind: ir.Get, Dst: 3, A: 5}, input(2))), []int{0},
		map[int]Fact{5: known(7), 4: every, 3: every, 2: every})
	tells(t, "what sets none", program(block(3, trap(), number(0, 7), number(1, 8), output(1), ir.Instr{Kind: ir.Store, A: 1}, ir.Instr{Kind: ir.Put, A: 1, B: 1})), []int{0},
		map[int]Fact{0: known(7), 1: known(8)})
}

// P18.1: a Do of Known ones is Known, if it can be done, else Any; one of another, too, whatever comes of it.
func TestDo(t *testing.T) {
	numbers := []int64{0, 1, 2, -1, -8, 63, 64, math.MinInt64, math.MaxInt64}
	for o := range word.Ops {
		for _, a := range numbers {
			for _, b := range numbers {
				want := every
				if n, ok := o.Do(a, b); ok {
					want = known(n)
				}
				p := program(block(0, ret(2), number(0, a), number(1, b), do(o, 2, 0, 1), do(o, 3, 2, 1)))
				facts, _ := Facts(p)
				if facts[2] != want {
					t.Errorf("P18.1: %s of %d, %d: %v, not %v", o.Name(), a, b, facts[2], want)
				}
				if want == every && facts[3] != every {
					t.Errorf("P18.1: %s of that: %v", o.Name(), facts[3])
				}
			}
		}
		what := o.Name()
		for _, n := range []int64{0, 1, -1} {
			tells(t, what+" of any", program(block(0, trap(), input(0), number(1, n), do(o, 2, 0, 1), do(o, 3, 1, 0), do(o, 4, 0, 0))), []int{0},
				map[int]Fact{0: every, 1: known(n), 2: every, 3: every, 4: every})
		}
	}
	for _, x := range []struct {
		o       word.Op
		a, b, n int64
	}{
		{word.Add, math.MaxInt64, 1, math.MinInt64}, {word.Sub, 3, 5, -2}, {word.Mul, math.MinInt64, -1, math.MinInt64}, {word.Div, -7, 2, -3}, {word.Div, math.MinInt64, -1, math.MinInt64},
		{word.Rem, -7, 2, -1}, {word.Rem, math.MinInt64, -1, 0}, {word.And, 6, 3, 2}, {word.Or, 6, 3, 7}, {word.Xor, 6, 3, 5}, {word.Shl, 1, 65, 2}, {word.Shr, -8, 1, -4}, {word.Eq, 2, 2, 1}, {word.Less, 2, 2, 0},
	} {
		tells(t, x, program(block(0, trap(), number(0, x.a), number(1, x.b), do(x.o, 2, 0, 1))), []int{0}, map[int]Fact{0: known(x.a), 1: known(x.b), 2: known(x.n)})
	}
	for _, o := range []word.Op{word.Div, word.Rem} {
		tells(t, "by 0", program(block(0, trap(), number(0, 7), number(1, 0), do(o, 2, 0, 1), do(o, 3, 1, 1), do(word.Mul, 4, 2, 1))), []int{0},
			map[int]Fact{0: known(7), 1: known(0), 2: every, 3: every, 4: every})
	}
}

// P18.1: a Branch on a Known register goes one way, on another one both.
func TestWays(t *testing.T) {
	of := func(x ir.Instr, l ir.Last) ir.Program {
		return program(block(6, l, x), block(9, ret(1), number(1, 5)), block(2, ret(2), number(2, 5)))
	}
	for _, n := range []int64{1, -1, 2, 1 << 32, math.MinInt64, math.MaxInt64} {
		tells(t, n, of(number(0, n), branch(0, 9, 2)), []int{0, 1}, map[int]Fact{0: known(n), 1: known(5)})
		tells(t, n, of(number(0, n), branch(0, 2, 9)), []int{0, 2}, map[int]Fact{0: known(n), 2: known(5)})
	}
	tells(t, "0", of(number(0, 0), branch(0, 9, 2)), []int{0, 2}, map[int]Fact{0: known(0), 2: known(5)})
	tells(t, "any", of(input(0), branch(0, 9, 2)), []int{0, 1, 2}, map[int]Fact{0: every, 1: known(5), 2: known(5)})
	for _, n := range []int64{0, 3} {
		tells(t, "both labels are one", program(block(1, branch(0, 4, 4), number(0, n)), block(4, trap(), copied(1, 0))), []int{0, 1}, map[int]Fact{0: known(n), 1: known(n)})
	}
	tells(t, "a row, of which the rest isn't there", program(
		block(0, branch(0, 1, 3), number(0, 1)), block(1, jump(2), number(1, 2)), block(2, trap(), copied(2, 0)),
		block(3, jump(4), number(3, 2)), block(4, jump(2), copied(4, 3))), []int{0, 1, 2}, map[int]Fact{0: known(1), 1: known(2), 2: known(1)})
	tells(t, "a round of its own", program(block(0, branch(0, 1, 2), input(0)), block(1, jump(1), number(1, 2)), block(2, trap())), []int{0, 1, 2}, map[int]Fact{0: every, 1: known(2)})
}

// meeting: two ways that meet: a phi of what is set in each.
func meeting(begin, left, right ir.Instr) ir.Program {
	return program(block(5, branch(0, 1, 2), begin), block(1, jump(3), left), block(2, jump(3), right), with(block(3, ret(3)), phi(3, [2]int{1, 1}, [2]int{2, 2})))
}

// P18.1: a phi's fact is the Meet of its entries' from which one comes.
func TestPhis(t *testing.T) {
	all := []int{0, 1, 2, 3}
	tells(t, "the same number", meeting(input(0), number(1, 7), number(2, 7)), all, map[int]Fact{0: every, 1: known(7), 2: known(7), 3: known(7)})
	tells(t, "two numbers", meeting(input(0), number(1, 7), number(2, 8)), all, map[int]Fact{0: every, 1: known(7), 2: known(8), 3: every})
	tells(t, "one is any", meeting(input(0), number(1, 7), input(2)), all, map[int]Fact{0: every, 1: known(7), 2: every, 3: every})
	tells(t, "both are any", meeting(input(0), copied(1, 0), copied(2, 0)), all, map[int]Fact{0: every, 1: every, 2: every, 3: every})
	tells(t, "one isn't there", meeting(number(0, 4), number(1, 7), number(2, 8)), []int{0, 1, 3}, map[int]Fact{0: known(4), 1: known(7), 3: known(7)})
	tells(t, "the other isn't", meeting(number(0, 0), number(1, 7), number(2, 8)), []int{0, 2, 3}, map[int]Fact{0: known(0), 2: known(8), 3: known(8)})
	tells(t, "one isn't there, that is any", meeting(number(0, 4), number(1, 7), input(2)), []int{0, 1, 3}, map[int]Fact{0: known(4), 1: known(7), 3: known(7)})
	tells(t, "the one that is there is any", meeting(number(0, 4), input(1), number(2, 7)), []int{0, 1, 3}, map[int]Fact{0: known(4), 1: every, 3: every})
	tells(t, "an entry of one that is there, but doesn't go on here", program(
		block(0, branch(0, 1, 2), input(0), number(1, 7)), block(1, branch(2, 3, 2), number(2, 1)),
		with(block(2, ret(3)), phi(3, [2]int{0, 1}, [2]int{1, 0})), block(3, trap())), all, map[int]Fact{0: every, 1: known(7), 2: known(1), 3: known(7)})
	tells(t, "the entry of a block both of whose labels are one", program(
		block(0, branch(0, 4, 4), number(0, 0)), with(block(4, ret(1)), phi(1, [2]int{0, 0}))), []int{0, 1}, map[int]Fact{0: known(0), 1: known(0)})
	tells(t, "three ways, of which two are there", program(
		block(0, branch(0, 1, 2), input(0)), block(1, branch(1, 3, 4), number(1, 6)), block(2, jump(4), number(2, 9)), block(3, jump(4), number(3, 9)),
		with(block(4, ret(4)), phi(4, [2]int{1, 0}, [2]int{2, 2}, [2]int{3, 3}))), []int{0, 1, 2, 3, 4}, map[int]Fact{0: every, 1: known(6), 2: known(9), 3: known(9), 4: known(9)})
	tells(t, "labels that don't rise as places do", program(
		block(9, branch(0, 7, 3), input(0)), block(7, jump(1), number(1, 5)), block(3, jump(1), number(2, 6)),
		with(block(1, ret(3)), phi(3, [2]int{3, 1 + 1}, [2]int{7, 1}), phi(4, [2]int{3, 2}, [2]int{7, 0}))), all, map[int]Fact{0: every, 1: known(5), 2: known(6), 3: every, 4: every})
}

// round: a number, a phi of it and of what the round makes of it; the round's end.
func round(n int64, l ir.Last, body ...ir.Instr) ir.Program {
	return program(block(0, jump(1), number(0, n), input(9)), with(block(1, l, body...), phi(1, [2]int{0, 0}, [2]int{1, 2})), block(2, trap()))
}

// P18.1: the least facts: what comes round is Known, as long as it is the same.
func TestRounds(t *testing.T) {
	l := branch(9, 1, 2)
	all := []int{0, 1, 2}
	tells(t, "itself", program(block(0, jump(1), number(0, 3), input(9)), with(block(1, l), phi(1, [2]int{0, 0}, [2]int{1, 1})), block(2, trap())), all,
		map[int]Fact{0: known(3), 9: every, 1: known(3)})
	tells(t, "a copy of itself", round(3, l, copied(2, 1)), all, map[int]Fact{0: known(3), 9: every, 1: known(3), 2: known(3)})
	tells(t, "1 by 1", round(1, l, do(word.Mul, 2, 1, 1)), all, map[int]Fact{0: known(1), 9: every, 1: known(1), 2: known(1)})
	tells(t, "2 by 2", round(2, l, do(word.Mul, 2, 1, 1)), all, map[int]Fact{0: known(2), 9: every, 1: every, 2: every})
	tells(t, "the same number", round(7, l, number(2, 7)), all, map[int]Fact{0: known(7), 9: every, 1: known(7), 2: known(7)})
	tells(t, "another number", round(7, l, number(2, 8)), all, map[int]Fact{0: known(7), 9: every, 1: every, 2: known(8)})
	tells(t, "one more each time", round(0, l, number(3, 1), do(word.Add, 2, 1, 3)), all, map[int]Fact{0: known(0), 9: every, 1: every, 2: every, 3: known(1)})
	tells(t, "it ends behind the first", round(0, branch(1, 1, 2), number(3, 1), do(word.Add, 2, 1, 3)), all, map[int]Fact{0: known(0), 9: every, 1: known(0), 2: known(1), 3: known(1)})
	tells(t, "it never ends", round(5, branch(1, 1, 2), copied(2, 1)), []int{0, 1}, map[int]Fact{0: known(5), 9: every, 1: known(5), 2: known(5)})
	tells(t, "it ends at the second, which isn't known", round(1, branch(2, 1, 2), number(3, 1), do(word.Add, 2, 1, 3)), all, map[int]Fact{0: known(1), 9: every, 1: every, 2: every, 3: known(1)})
	swap := func(n int64) ir.Program {
		return program(block(0, jump(1), number(0, 4), number(3, n), input(9)), with(block(1, l), phi(1, [2]int{0, 0}, [2]int{1, 2}), phi(2, [2]int{0, 3}, [2]int{1, 1})), block(2, trap()))
	}
	tells(t, "two that change places, the same", swap(4), all, map[int]Fact{0: known(4), 3: known(4), 9: every, 1: known(4), 2: known(4)})
	tells(t, "two that change places", swap(5), all, map[int]Fact{0: known(4), 3: known(5), 9: every, 1: every, 2: every})
}

// P18.1: what isn't there as long as a number is known doesn't change it; what changes it opens it.
func TestRoundsOfWays(t *testing.T) {
	of := func(n int64) ir.Program {
		return program(
			block(0, jump(1), number(0, 1), number(9, n), input(8)),
			with(block(1, branch(1, 2, 3)), phi(1, [2]int{0, 0}, [2]int{4, 4})),
			block(2, jump(4), copied(2, 9)),
			block(3, jump(4), input(3)),
			with(block(4, branch(8, 1, 5)), phi(4, [2]int{2, 2}, [2]int{3, 3})),
			block(5, ret(4)))
	}
	tells(t, "the way of another number isn't there", of(1), []int{0, 1, 2, 4, 5}, map[int]Fact{0: known(1), 9: known(1), 8: every, 1: known(1), 2: known(1), 4: known(1)})
	tells(t, "another number comes round", of(2), []int{0, 1, 2, 3, 4, 5}, map[int]Fact{0: known(1), 9: known(2), 8: every, 1: every, 2: known(2), 3: every, 4: every})
	// A row of rounds, each of which opens the next.
	const n = 30
	p := program(block(0, jump(1), number(0, 0), input(500)))
	want := map[int]Fact{0: known(0), 500: every}
	all := []int{0}
	for i := 1; i < n; i++ {
		p.Blocks = append(p.Blocks, with(block(i, branch(i, i+1, i), ir.Instr{Kind: ir.Copy, Dst: i + 100, A: 500}), phi(i, [2]int{i - 1, 0}, [2]int{i, i + 100})))
		want[i], want[i+100] = every, every
		all = append(all, i)
	}
	p.Blocks = append(p.Blocks, block(n, trap()))
	tells(t, "a row of rounds", p, append(all, n), want)
}

// P18.1: a phi without entries, as the first block may have: nothing is known of it, nor of what is made of it; on it one goes on nowhere.
func TestNoEntries(t *testing.T) {
	tells(t, "a phi", program(with(block(0, ret(1)), phi(1))), []int{0}, nil)
	tells(t, "what is made of it", program(with(block(0, ret(1), copied(2, 1), do(word.Add, 3, 2, 1), number(4, 5), do(word.Add, 5, 4, 3), do(word.Div, 6, 3, 4), input(7), do(word.Sub, 8, 7, 1), ir.Instr{Kind: ir.Get, Dst: 9, A: 1}), phi(1))), []int{0},
		map[int]Fact{4: known(5), 7: every, 9: every})
	tells(t, "a branch", program(with(block(0, branch(1, 1, 2), number(0, 1)), phi(1)), block(1, jump(2), number(3, 4)), block(2, trap(), copied(4, 0))), []int{0}, map[int]Fact{0: known(1)})
	tells(t, "it meets", program(with(block(0, branch(0, 1, 2), input(0), number(2, 6)), phi(1)), block(1, jump(2)), with(block(2, ret(3)), phi(3, [2]int{0, 1}, [2]int{1, 2}), phi(4, [2]int{0, 1}, [2]int{1, 1}))), []int{0, 1, 2},
		map[int]Fact{0: every, 2: known(6), 3: known(6)})
}

// P18.1: the registers that are there are told of, whatever is known; no others are but as Unknown.
func TestToldOf(t *testing.T) {
	p := program(with(block(0, branch(0, 1, 2), number(0, 1), input(2), copied(3, 1)), phi(1)), with(block(1, trap(), output(0)), phi(4, [2]int{0, 2})), block(2, trap(), number(5, 3), input(6)))
	facts, there := Facts(p)
	want := map[int]Fact{0: known(1), 1: none, 2: every, 3: none, 4: every}
	if fmt.Sprint(facts) != fmt.Sprint(want) || fmt.Sprint(there) != "[true true false]" {
		t.Errorf("P18.1: %v %v, not %v", facts, there, want)
	}
}
