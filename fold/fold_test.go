package fold

import (
	"fmt"
	"testing"

	"refinery/api"
	"refinery/ir"
	"refinery/run"
	"refinery/show"
	"refinery/strict"
	"refinery/word"
)

// folds: what Fold makes of a strict program, printed; it does what it did.
func folds(t *testing.T, what any, p ir.Program, want string) {
	t.Helper()
	if err := strict.Check(p); err != api.OK {
		t.Fatalf("%v: it isn't strict: error %d", what, err)
	}
	q := holds(t, what, p)
	if got := show.Program(q); got != want {
		t.Errorf("P18.2: %v:\n%s, not\n%s", what, got, want)
	}
	for n := range 8 {
		acts(t, what, p, q, []int64{int64(n & 1), int64(n & 2), int64(n & 4), 1, 0}[:5-n%3], 40)
	}
}

// P18.2: what is Known is set by a Const at its place; all else stays as it is.
func TestConsts(t *testing.T) {
	folds(t, "an end alone", program(block(7, trap())), "@7:\n  trap\n")
	folds(t, "nothing is known", program(block(7, ret(2), input(0), do(word.Add, 1, 0, 0), output(1), copied(2, 1))), "@7:\n  %0 = in\n  %1 = add %0, %0\n  out %1\n  %2 = %1\n  ret %2\n")
	folds(t, "each kind", program(block(7, ret(3),
		number(0, 5), copied(1, 0), do(word.Sub, 2, 1, 0), ir.Instr{Kind: ir.Load, Dst: 3, Slot: 4}, output(1), ir.Instr{Kind: ir.Store, A: 1, Slot: 4}, ir.Instr{Kind: ir.Put, A: 2, B: 1}, ir.Instr{Kind: ir.Get, Dst: 4, A: 2}, input(5), do(word.Mul, 6, 5, 2), do(word.Less, 7, 2, 1))),
		"@7:\n  %0 = 5\n  %1 = 5\n  %2 = 0\n  %3 = load $4\n  out %1\n  store $4, %1\n  put %2, %1\n  %4 = get %2\n  %5 = in\n  %6 = mul %5, %2\n  %7 = 1\n  ret %3\n")
	folds(t, "what can't be done stays", program(block(7, ret(3), number(0, 0), number(1, 3), output(1), do(word.Rem, 2, 1, 0), copied(3, 2))), "@7:\n  %0 = 0\n  %1 = 3\n  out %1\n  %2 = rem %1, %0\n  %3 = %2\n  ret %3\n")
	folds(t, "a quotient that can be done doesn't trap", program(block(7, ret(2), number(0, 7), number(1, -2), do(word.Div, 2, 0, 1))), "@7:\n  %0 = 7\n  %1 = -2\n  %2 = -3\n  ret %2\n")
	folds(t, "register 0, which stands where there is none", program(block(7, trap(), number(0, 7), number(1, 1), output(1), ir.Instr{Kind: ir.Store, A: 1})), "@7:\n  %0 = 7\n  %1 = 1\n  out %1\n  store $0, %1\n  trap\n")
	folds(t, "a return stays", program(block(7, ret(0), number(0, 7))), "@7:\n  %0 = 7\n  ret %0\n")
}

// P18.2: a Branch on a Known register Jumps; blocks that aren't reached then are left out, in phis, too.
func TestJumps(t *testing.T) {
	of := func(x ir.Instr, l ir.Last) ir.Program {
		return program(block(6, l, x), block(9, jump(4), number(1, 5)), block(2, jump(4), copied(2, 0)), with(block(4, ret(3)), phi(3, [2]int{2, 2}, [2]int{9, 1})))
	}
	folds(t, "yes", of(number(0, -3), branch(0, 9, 2)), "@6:\n  %0 = -3\n  jump @9\n@9:\n  %1 = 5\n  jump @4\n@4:\n  %3 = 5\n  ret %3\n")
	folds(t, "no", of(number(0, 0), branch(0, 9, 2)), "@6:\n  %0 = 0\n  jump @2\n@2:\n  %2 = 0\n  jump @4\n@4:\n  %3 = 0\n  ret %3\n")
	folds(t, "either", of(input(0), branch(0, 9, 2)), "@6:\n  %0 = in\n  br %0, @9, @2\n@9:\n  %1 = 5\n  jump @4\n@2:\n  %2 = %0\n  jump @4\n@4:\n  %3 = phi %2 @2, %1 @9\n  ret %3\n")
	folds(t, "both labels are one", program(block(6, branch(0, 9, 9), number(0, 1)), block(9, trap())), "@6:\n  %0 = 1\n  jump @9\n@9:\n  trap\n")
	folds(t, "both labels are one, either", program(block(6, branch(0, 9, 9), input(0)), block(9, trap())), "@6:\n  %0 = in\n  br %0, @9, @9\n@9:\n  trap\n")
	folds(t, "a phi of one entry stays, if it isn't known", program(
		block(6, branch(0, 9, 2), number(0, 1), input(1)), block(9, jump(4)), block(2, jump(4)), with(block(4, ret(2)), phi(2, [2]int{2, 0}, [2]int{9, 1}))),
		"@6:\n  %0 = 1\n  %1 = in\n  jump @9\n@9:\n  jump @4\n@4:\n  %2 = phi %1 @9\n  ret %2\n")
	folds(t, "a block that stays, as another one goes on there", program(
		block(6, branch(0, 9, 2), number(0, 1), input(1)), block(9, branch(1, 2, 4)), with(block(2, ret(2)), phi(2, [2]int{6, 0}, [2]int{9, 1})), block(4, trap())),
		"@6:\n  %0 = 1\n  %1 = in\n  jump @9\n@9:\n  br %1, @2, @4\n@2:\n  %2 = phi %1 @9\n  ret %2\n@4:\n  trap\n")
	folds(t, "a round that isn't reached", program(
		block(6, branch(0, 9, 2), number(0, 0)), with(block(9, jump(3)), phi(1, [2]int{3, 2}, [2]int{6, 0})), block(2, ret(0)), block(3, branch(1, 9, 2), do(word.Add, 2, 1, 1))),
		"@6:\n  %0 = 0\n  jump @2\n@2:\n  ret %0\n")
}

// P18.2: phis that are Known are Consts, ahead of the instructions, in order.
func TestPhisAhead(t *testing.T) {
	p := program(
		block(0, branch(0, 1, 2), input(0), number(9, 4)), block(1, jump(3), number(1, 7), number(2, 8)), block(2, jump(3), number(3, 7), number(4, 8)),
		with(block(3, ret(5), output(6), output(7), copied(8, 5)), phi(7, [2]int{1, 2}, [2]int{2, 4}), phi(6, [2]int{1, 1}, [2]int{2, 4}), phi(5, [2]int{1, 1}, [2]int{2, 3}), phi(10, [2]int{1, 0}, [2]int{2, 9}), phi(11, [2]int{1, 9}, [2]int{2, 9})))
	folds(t, "some of five", p, "@0:\n  %0 = in\n  %9 = 4\n  br %0, @1, @2\n@1:\n  %1 = 7\n  %2 = 8\n  jump @3\n@2:\n  %3 = 7\n  %4 = 8\n  jump @3\n"+
		"@3:\n  %6 = phi %1 @1, %4 @2\n  %10 = phi %0 @1, %9 @2\n  %7 = 8\n  %5 = 7\n  %11 = 4\n  out %6\n  out %7\n  %8 = 7\n  ret %5\n")
	folds(t, "one comes round", program(block(0, jump(1), number(0, 3), input(9)), with(block(1, branch(9, 1, 2), output(1), copied(2, 1)), phi(1, [2]int{0, 0}, [2]int{1, 2})), block(2, ret(1))),
		"@0:\n  %0 = 3\n  %9 = in\n  jump @1\n@1:\n  %1 = 3\n  out %1\n  %2 = 3\n  br %9, @1, @2\n@2:\n  ret %1\n")
	folds(t, "it ends behind the first round", round(0, branch(1, 1, 2), number(3, 1), do(word.Add, 2, 1, 3), output(2)), "@0:\n  %0 = 0\n  %9 = in\n  jump @1\n@1:\n  %1 = 0\n  %3 = 1\n  %2 = 1\n  out %2\n  jump @2\n@2:\n  trap\n")
	folds(t, "it never ends", round(5, branch(1, 1, 2), copied(2, 1)), "@0:\n  %0 = 5\n  %9 = in\n  jump @1\n@1:\n  %1 = 5\n  %2 = 5\n  jump @1\n")
}

// P18.2, P3: a phi without entries is as it is, and so is what would be known without it alone, as a run sets it to 0.
func TestNoEntriesFold(t *testing.T) {
	folds(t, "a phi", program(with(block(0, ret(1)), phi(1))), "@0:\n  %1 = phi\n  ret %1\n")
	folds(t, "a branch", program(with(block(0, branch(1, 1, 2), number(0, 1), copied(3, 0)), phi(1)), block(1, jump(2), copied(4, 0)), block(2, trap(), copied(5, 0))),
		"@0:\n  %1 = phi\n  %0 = 1\n  %3 = 1\n  br %1, @1, @2\n@1:\n  %4 = %0\n  jump @2\n@2:\n  %5 = %0\n  trap\n")
	meets := func(n int64) ir.Program {
		return program(
			with(block(0, branch(0, 1, 2), input(0), number(2, n)), phi(1)), block(1, jump(2)),
			with(block(2, branch(3, 3, 4), copied(4, 3)), phi(3, [2]int{0, 1}, [2]int{1, 2})), block(3, ret(4)), block(4, ret(1)))
	}
	folds(t, "it meets a number", meets(6), "@0:\n  %1 = phi\n  %0 = in\n  %2 = 6\n  br %0, @1, @2\n@1:\n  jump @2\n@2:\n  %3 = phi %1 @0, %2 @1\n  %4 = %3\n  br %3, @3, @4\n@3:\n  ret %4\n@4:\n  ret %1\n")
	folds(t, "it meets 0", meets(0), "@0:\n  %1 = phi\n  %0 = in\n  %2 = 0\n  br %0, @1, @2\n@1:\n  jump @2\n@2:\n  %3 = 0\n  %4 = 0\n  jump @4\n@4:\n  ret %1\n")
	for in, value := range map[int64]int64{0: 0, 1: 6} {
		if o := run.Run(Fold(meets(6)), []int64{in}, 50); o.End != run.Returned || o.Value != value {
			t.Errorf("P3: %d: %+v", in, o)
		}
	}
}

// P18.2: what is folded is folded once: all that was known is so.
func TestTwice(t *testing.T) {
	for n := range int64(3) {
		p := program(
			block(0, jump(1), number(0, 1), number(9, n), input(8)),
			with(block(1, branch(1, 2, 3)), phi(1, [2]int{0, 0}, [2]int{4, 4})),
			block(2, jump(4), copied(2, 9)),
			block(3, jump(4), input(3)),
			with(block(4, branch(8, 1, 5), output(4)), phi(4, [2]int{2, 2}, [2]int{3, 3})),
			block(5, ret(4)))
		want := "@0:\n  %0 = 1\n  %9 = 1\n  %8 = in\n  jump @1\n@1:\n  %1 = 1\n  jump @2\n@2:\n  %2 = 1\n  jump @4\n@4:\n  %4 = 1\n  out %4\n  br %8, @1, @5\n@5:\n  ret %4\n"
		if n != 1 {
			want = fmt.Sprintf("@0:\n  %%0 = 1\n  %%9 = %d\n  %%8 = in\n  jump @1\n@1:\n  %%1 = phi %%0 @0, %%4 @4\n  br %%1, @2, @3\n@2:\n  %%2 = %d\n  jump @4\n@3:\n  %%3 = in\n  jump @4\n@4:\n  %%4 = phi %%2 @2, %%3 @3\n  out %%4\n  br %%8, @1, @5\n@5:\n  ret %%4\n", n, n)
		}
		folds(t, n, p, want)
		is(t, "folded again", n, Fold(Fold(p)), Fold(p))
	}
}
