package ssa

import (
	"fmt"
	"testing"

	"refinery/api"
	"refinery/ir"
	"refinery/parse"
	"refinery/run"
	"refinery/show"
	"refinery/sure"
)

func jump(to int) ir.Last           { return ir.Last{End: ir.Jump, Yes: to} }
func branch(a, yes, no int) ir.Last { return ir.Last{End: ir.Branch, A: a, Yes: yes, No: no} }
func ret(a int) ir.Last             { return ir.Last{End: ir.Return, A: a} }
func trap() ir.Last                 { return ir.Last{End: ir.Trap} }

func number(dst int, n int64) ir.Instr { return ir.Instr{Kind: ir.Const, Dst: dst, N: n} }
func copied(dst, a int) ir.Instr       { return ir.Instr{Kind: ir.Copy, Dst: dst, A: a} }
func input(dst int) ir.Instr           { return ir.Instr{Kind: ir.In, Dst: dst} }
func output(a int) ir.Instr            { return ir.Instr{Kind: ir.Out, A: a} }

func block(label int, l ir.Last, instrs ...ir.Instr) ir.Block {
	return ir.Block{Label: label, Instrs: instrs, Last: l}
}

func program(l ...ir.Block) ir.Program { return ir.Program{Blocks: l} }

// read: a text's program, that is sure.
func read(t *testing.T, text string) ir.Program {
	t.Helper()
	p, at, err := parse.Parse(text)
	if err != api.OK {
		t.Fatalf("error %d at %d of %s", err, at, text)
	}
	if err := sure.Check(p); err != api.OK {
		t.Fatalf("it isn't sure: error %d of %s", err, text)
	}
	return p
}

// is: are two programs the same? What is told of is printed only if they aren't, as there are very many.
func is(t *testing.T, promise string, what any, p, want ir.Program) {
	t.Helper()
	if !ir.Same(p, want) {
		t.Errorf("%s: %+v:\n%s, not\n%s", promise, what, show.Program(p), show.Program(want))
	}
}

// makes: what Make makes of a sure program, printed.
func makes(t *testing.T, what, src, want string) {
	t.Helper()
	p := read(t, src)
	if got := show.Program(Make(p)); got != want {
		t.Errorf("P16.1: %s:\n%s, not\n%s", what, got, want)
	}
	if want := plainMake(p); !ir.Same(Make(p), want) {
		t.Errorf("P16.1: %s: by the chapter's words:\n%s", what, show.Program(want))
	}
	strict(t, what, Make(p))
}

// P16.1: the chapter's example.
func TestExample(t *testing.T) {
	makes(t, "the example", "@0:\n%5 = 1\n%5 = add %5, %5\ntrap", "@0:\n  %0 = 1\n  %1 = add %0, %0\n  trap\n")
	q := Make(program(block(0, ret(5), number(5, 1), ir.Instr{Kind: ir.Do, Dst: 5, A: 5, B: 5})))
	is(t, "P16.1", "the example", q, program(block(0, ret(1), number(0, 1), ir.Instr{Kind: ir.Do, Dst: 1})))
}

// P16.1: one block: each place that sets gets the next register, each one that reads has the last that was set.
func TestRow(t *testing.T) {
	makes(t, "an end alone", "@0:\ntrap", "@0:\n  trap\n")
	makes(t, "each kind",
		"@7:\n%9 = -5\n%8 = %9\n%8 = div %8, %9\n%9 = in\nout %9\n%7 = load $4\nstore $4, %7\n%7 = get %7\nput %8, %7\nput %7, %8\n%8 = shl %7, %9\nret %8",
		"@7:\n  %0 = -5\n  %1 = %0\n  %2 = div %1, %0\n  %3 = in\n  out %3\n  %4 = load $4\n  store $4, %4\n  %5 = get %4\n  put %2, %5\n  put %5, %2\n  %6 = shl %5, %3\n  ret %6\n")
	makes(t, "what it sets it reads", "@0:\n%3 = in\n%3 = %3\n%3 = get %3\n%3 = sub %3, %3\nout %3\nret %3", "@0:\n  %0 = in\n  %1 = %0\n  %2 = get %1\n  %3 = sub %2, %2\n  out %3\n  ret %3\n")
	makes(t, "nobody reads them", "@0:\n%5 = 1\n%4 = 2\n%5 = 3\ntrap", "@0:\n  %0 = 1\n  %1 = 2\n  %2 = 3\n  trap\n")
	makes(t, "the greatest register", "@0:\n%99999 = in\n%0 = %99999\nret %99999", "@0:\n  %0 = in\n  %1 = %0\n  ret %0\n")
}

// P16.1: phis where ways meet: of registers that are live there alone, rising, with labels that rise.
func TestMeet(t *testing.T) {
	makes(t, "set in both ways",
		"@0:\n%1 = in\nbr %1, @1, @2\n@1:\n%2 = 5\njump @3\n@2:\n%2 = 6\njump @3\n@3:\nret %2",
		"@0:\n  %0 = in\n  br %0, @1, @2\n@1:\n  %1 = 5\n  jump @3\n@2:\n  %2 = 6\n  jump @3\n@3:\n  %3 = phi %1 @1, %2 @2\n  ret %3\n")
	makes(t, "set in one way, and ahead",
		"@0:\n%1 = in\n%2 = 4\nbr %1, @1, @3\n@1:\n%2 = 5\njump @3\n@3:\nret %2",
		"@0:\n  %0 = in\n  %1 = 4\n  br %0, @1, @3\n@1:\n  %2 = 5\n  jump @3\n@3:\n  %3 = phi %1 @0, %2 @1\n  ret %3\n")
	makes(t, "set in one way, not live where they meet",
		"@0:\n%1 = in\nbr %1, @1, @3\n@1:\n%2 = 5\nout %2\njump @3\n@3:\n%2 = 7\nret %2",
		"@0:\n  %0 = in\n  br %0, @1, @3\n@1:\n  %1 = 5\n  out %1\n  jump @3\n@3:\n  %2 = 7\n  ret %2\n")
	makes(t, "registers rise, whatever the order in which they are set",
		"@0:\n%7 = in\n%9 = %7\n%2 = %7\n%4 = %7\nbr %7, @1, @3\n@1:\n%9 = 1\n%4 = 2\n%2 = 3\njump @3\n@3:\nout %4\nout %9\nret %2",
		"@0:\n  %0 = in\n  %1 = %0\n  %2 = %0\n  %3 = %0\n  br %0, @1, @3\n@1:\n  %4 = 1\n  %5 = 2\n  %6 = 3\n  jump @3\n@3:\n  %7 = phi %2 @0, %6 @1\n  %8 = phi %3 @0, %5 @1\n  %9 = phi %1 @0, %4 @1\n  out %8\n  out %9\n  ret %7\n")
	makes(t, "labels rise, whatever the places",
		"@9:\n%1 = in\n%2 = 4\nbr %1, @8, @5\n@8:\n%2 = 5\nbr %1, @7, @5\n@7:\n%2 = 6\njump @5\n@5:\nret %2",
		"@9:\n  %0 = in\n  %1 = 4\n  br %0, @8, @5\n@8:\n  %2 = 5\n  br %0, @7, @5\n@7:\n  %3 = 6\n  jump @5\n@5:\n  %4 = phi %3 @7, %2 @8, %1 @9\n  ret %4\n")
	makes(t, "read by the end alone, by a branch",
		"@0:\n%1 = in\n%2 = 4\nbr %1, @1, @3\n@1:\n%2 = 5\njump @3\n@3:\nbr %2, @4, @5\n@4:\ntrap\n@5:\nret %2",
		"@0:\n  %0 = in\n  %1 = 4\n  br %0, @1, @3\n@1:\n  %2 = 5\n  jump @3\n@3:\n  %3 = phi %1 @0, %2 @1\n  br %3, @4, @5\n@4:\n  trap\n@5:\n  ret %3\n")
	makes(t, "both labels are one: there is one way",
		"@0:\n%1 = in\n%2 = 4\nbr %1, @3, @3\n@3:\n%2 = add %2, %1\nret %2",
		"@0:\n  %0 = in\n  %1 = 4\n  br %0, @3, @3\n@3:\n  %2 = add %1, %0\n  ret %2\n")
	makes(t, "a phi sets: where that meets another there is one, too",
		"@0:\n%1 = in\n%2 = 4\nbr %1, @1, @5\n@1:\nbr %1, @2, @3\n@2:\n%2 = 5\njump @4\n@3:\njump @4\n@4:\njump @5\n@5:\nret %2",
		"@0:\n  %0 = in\n  %1 = 4\n  br %0, @1, @5\n@1:\n  br %0, @2, @3\n@2:\n  %2 = 5\n  jump @4\n@3:\n  jump @4\n@4:\n  %3 = phi %2 @2, %1 @3\n  jump @5\n@5:\n  %4 = phi %1 @0, %3 @4\n  ret %4\n")
	makes(t, "what is set in one way isn't read in the other",
		"@0:\n%1 = 1\nbr %1, @1, @2\n@1:\n%1 = 2\nbr %1, @3, @4\n@3:\n%1 = 3\nret %1\n@4:\nret %1\n@2:\nret %1",
		"@0:\n  %0 = 1\n  br %0, @1, @2\n@1:\n  %1 = 2\n  br %1, @3, @4\n@3:\n  %2 = 3\n  ret %2\n@4:\n  ret %1\n@2:\n  ret %0\n")
}

// P16.1: phis where one comes round.
func TestRounds(t *testing.T) {
	makes(t, "a round of one",
		"@0:\n%1 = in\n%2 = 0\njump @1\n@1:\n%2 = add %2, %1\n%1 = in\nbr %1, @1, @2\n@2:\nret %2",
		"@0:\n  %0 = in\n  %1 = 0\n  jump @1\n@1:\n  %2 = phi %0 @0, %5 @1\n  %3 = phi %1 @0, %4 @1\n  %4 = add %3, %2\n  %5 = in\n  br %5, @1, @2\n@2:\n  ret %4\n")
	makes(t, "two that change places",
		"@0:\n%1 = in\n%2 = in\njump @1\n@1:\n%3 = %1\n%1 = %2\n%2 = %3\nout %1\nbr %2, @1, @2\n@2:\nret %2",
		"@0:\n  %0 = in\n  %1 = in\n  jump @1\n@1:\n  %2 = phi %0 @0, %5 @1\n  %3 = phi %1 @0, %6 @1\n  %4 = %2\n  %5 = %3\n  %6 = %4\n  out %5\n  br %6, @1, @2\n@2:\n  ret %6\n")
	makes(t, "set in the round, read behind it alone",
		"@0:\n%1 = in\n%2 = 0\njump @1\n@1:\nbr %1, @3, @2\n@3:\n%2 = 7\njump @1\n@2:\nret %2",
		"@0:\n  %0 = in\n  %1 = 0\n  jump @1\n@1:\n  %2 = phi %1 @0, %3 @3\n  br %0, @3, @2\n@3:\n  %3 = 7\n  jump @1\n@2:\n  ret %2\n")
	makes(t, "not set in the round",
		"@0:\n%1 = in\njump @1\n@1:\nout %1\nbr %1, @1, @2\n@2:\nret %1",
		"@0:\n  %0 = in\n  jump @1\n@1:\n  out %0\n  br %0, @1, @2\n@2:\n  ret %0\n")
	makes(t, "set in each round ahead of being read",
		"@0:\njump @1\n@1:\n%1 = in\nout %1\nbr %1, @1, @2\n@2:\nret %1",
		"@0:\n  jump @1\n@1:\n  %0 = in\n  out %0\n  br %0, @1, @2\n@2:\n  ret %0\n")
	makes(t, "a round in a round: the outer one's phi has it from the inner one's",
		"@0:\n%1 = in\njump @1\n@1:\njump @2\n@2:\n%1 = sub %1, %1\nbr %1, @2, @3\n@3:\nbr %1, @1, @4\n@4:\nret %1",
		"@0:\n  %0 = in\n  jump @1\n@1:\n  %1 = phi %0 @0, %3 @3\n  jump @2\n@2:\n  %2 = phi %1 @1, %3 @2\n  %3 = sub %2, %2\n  br %3, @2, @3\n@3:\n  br %3, @1, @4\n@4:\n  ret %3\n")
	makes(t, "a way past what is set in the round: a phi has itself",
		"@0:\n%1 = in\n%2 = 1\njump @1\n@1:\nout %2\nbr %1, @1, @2\n@2:\n%2 = 2\nbr %1, @1, @3\n@3:\ntrap",
		"@0:\n  %0 = in\n  %1 = 1\n  jump @1\n@1:\n  %2 = phi %1 @0, %2 @1, %3 @2\n  out %2\n  br %0, @1, @2\n@2:\n  %3 = 2\n  br %0, @1, @3\n@3:\n  trap\n")
}

// P16.1: the first block: Reached comes first, then Front.
func TestFirst(t *testing.T) {
	makes(t, "it goes on at itself",
		"@3:\n%1 = in\nbr %1, @3, @5\n@5:\nret %1",
		"@6:\n  jump @3\n@3:\n  %0 = in\n  br %0, @3, @5\n@5:\n  ret %0\n")
	makes(t, "one comes back to it",
		"@3:\n%1 = in\n%2 = %1\njump @4\n@4:\nout %2\n%2 = 5\nbr %1, @3, @4",
		"@5:\n  jump @3\n@3:\n  %0 = in\n  %1 = %0\n  jump @4\n@4:\n  %2 = phi %1 @3, %3 @4\n  out %2\n  %3 = 5\n  br %0, @3, @4\n")
	makes(t, "blocks that aren't reached are left out, and their labels don't count",
		"@3:\n%1 = in\njump @3\n@9:\njump @8\n@8:\n%1 = 5\njump @9\n@4:\njump @3",
		"@4:\n  jump @3\n@3:\n  %0 = in\n  jump @3\n")
	makes(t, "one that isn't reached goes on at the first",
		"@3:\n%1 = in\nret %1\n@4:\njump @3",
		"@3:\n  %0 = in\n  ret %0\n")
	makes(t, "what isn't reached is no way, and sets nothing",
		"@0:\n%1 = in\njump @2\n@1:\n%1 = 5\njump @2\n@2:\nret %1",
		"@0:\n  %0 = in\n  jump @2\n@2:\n  ret %0\n")
	makes(t, "what isn't reached needn't be set",
		"@0:\n%1 = in\nret %1\n@1:\nout %2\njump @1",
		"@0:\n  %0 = in\n  ret %0\n")
}

// P16.1: registers are counted in the tree's order, not in that of the blocks' places, nor in that of the ways.
func TestOrder(t *testing.T) {
	makes(t, "a row, the other way round",
		"@0:\n%1 = in\njump @3\n@1:\n%3 = %2\nret %3\n@2:\n%2 = %1\njump @1\n@3:\n%1 = %1\njump @2",
		"@0:\n  %0 = in\n  jump @3\n@1:\n  %3 = %2\n  ret %3\n@2:\n  %2 = %1\n  jump @1\n@3:\n  %1 = %0\n  jump @2\n")
	makes(t, "below one block by places, all that is below one first",
		"@0:\n%1 = in\nbr %1, @4, @1\n@1:\n%2 = 1\njump @5\n@2:\n%2 = 2\nret %2\n@3:\n%2 = 3\nret %2\n@4:\n%2 = 4\nbr %1, @3, @5\n@5:\n%2 = 5\nbr %2, @2, @1",
		"@0:\n  %0 = in\n  br %0, @4, @1\n@1:\n  %1 = 1\n  jump @5\n@2:\n  %5 = 2\n  ret %5\n@3:\n  %3 = 3\n  ret %3\n@4:\n  %2 = 4\n  br %0, @3, @5\n@5:\n  %4 = 5\n  br %4, @2, @1\n")
}

// P16.2, P3: rounds, done: steps, what is put out and returned.
func TestRun(t *testing.T) {
	p := read(t, "@0:\n%1 = in\n%2 = in\n%3 = 1\njump @1\n@1:\n%4 = %1\n%1 = %2\n%2 = add %4, %2\nout %1\n%5 = in\n%5 = sub %5, %3\nbr %5, @1, @2\n@2:\nret %2")
	q := Make(p)
	strict(t, "rounds", q)
	for _, in := range [][]int64{nil, {1}, {1, 1, 1}, {1, 1, 5, 5, 5, 5, 1}, {3, -4, 0, 0, 0}} {
		for fuel := range 60 {
			if o, r := run.Run(p, in, fuel), run.Run(q, in, fuel); !run.Same(o, r) || o.Steps != r.Steps {
				t.Errorf("P16.2: inputs %v, fuel %d: %+v, not %+v", in, fuel, r, o)
			}
		}
	}
	if o := run.Run(q, []int64{1, 1, 5, 5, 5, 5, 1}, 100); o.End != run.Returned || o.Value != 13 || fmt.Sprint(o.Trace) != "[1 2 3 5 8]" {
		t.Errorf("P16.2: %+v", o)
	}
}
