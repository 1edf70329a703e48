package show

import (
	"math"
	"slices"
	"strconv"
	"strings"
	"testing"

	"refinery/ir"
	"refinery/word"
)

// wrong: numbers that no register, label or slot has, beside some that they have.
func wrong() []int {
	return []int{math.MinInt, math.MinInt + 1, math.MinInt32, -100000, -1, 0, 15, 16, 99999, 100000, math.MaxInt32, math.MaxInt - 1, math.MaxInt}
}

// P1, R8: whatever an instruction is, there is an answer, the same each time.
func TestAnyInstr(t *testing.T) {
	for k := range 256 {
		for o := range 256 {
			for _, n := range []int{0, 1, -1, math.MinInt, math.MaxInt} {
				x := ir.Instr{Kind: ir.Kind(k), Op: word.Op(o), Dst: n, A: -n, B: n / 3, N: int64(n), Slot: n}
				if s := Instr(x); s != Instr(x) {
					t.Errorf("R8: %+v: %q, then another", x, s)
				}
			}
		}
		for _, dst := range wrong() {
			for _, a := range wrong() {
				for _, b := range wrong() {
					Instr(ir.Instr{Kind: ir.Kind(k), Dst: dst, A: a, B: b, N: int64(dst), Slot: b})
				}
			}
		}
	}
}

// P1, R8: whatever an end is.
func TestAnyLast(t *testing.T) {
	for e := range 256 {
		for _, a := range wrong() {
			for _, yes := range wrong() {
				for _, no := range wrong() {
					l := ir.Last{End: ir.End(e), A: a, Yes: yes, No: no}
					if s := Last(l); s != Last(l) {
						t.Errorf("R8: %+v: %q, then another", l, s)
					}
				}
			}
		}
	}
}

// P1, R8: whatever a phi is: lists of unlike lengths, labels that fall, numbers that no register has.
func TestAnyPhi(t *testing.T) {
	all := wrong()
	for from := range len(all) + 1 {
		for args := range len(all) + 1 {
			for _, dst := range all {
				f := ir.Phi{Dst: dst, From: all[:from], Args: all[len(all)-args:]}
				if s := Phi(f); s != Phi(f) {
					t.Errorf("R8: %+v: %q, then another", f, s)
				}
			}
		}
	}
	Phi(ir.Phi{From: []int{1}})
	Phi(ir.Phi{Args: []int{1}})
	Phi(ir.Phi{From: make([]int, 100000), Args: make([]int, 99999)})
}

// P1, R8: whatever a program is; also one that is far too great.
func TestAnyProgram(t *testing.T) {
	var p ir.Program
	for i := range 1024 {
		n := wrong()[i%len(wrong())]
		p.Blocks = append(p.Blocks, ir.Block{
			Label:  n,
			Phis:   []ir.Phi{{Dst: n, From: make([]int, i%5), Args: make([]int, i%3)}},
			Instrs: []ir.Instr{{Kind: ir.Kind(i), Op: word.Op(i / 4), Dst: n, A: n, B: n, N: int64(n), Slot: n}},
			Last:   ir.Last{End: ir.End(i / 3), A: n, Yes: n, No: n},
		})
	}
	if s := Program(p); s != Program(p) {
		t.Error("R8: a program is printed as two texts")
	}
	Program(ir.Program{Blocks: []ir.Block{{Instrs: make([]ir.Instr, 300000)}}})
	Program(ir.Program{Blocks: make([]ir.Block, 300000)})
	Program(ir.Program{Blocks: []ir.Block{{Phis: make([]ir.Phi, 300000)}}})
}

// P6.1: numbers beyond a text's limits are printed as they are, where the rest of it may be.
func TestGreatNumbers(t *testing.T) {
	for _, n := range wrong() {
		text := strconv.Itoa(n)
		is(t, n, Instr(ir.Instr{Kind: ir.Out, A: n}), "out %"+text)
		is(t, n, Instr(ir.Instr{Kind: ir.Load, Slot: n}), "%0 = load $"+text)
		is(t, n, Last(ir.Last{End: ir.Jump, Yes: n}), "jump @"+text)
	}
}

// roomy: p, with each list within a greater one, whose spare room is filled with what isn't p's.
func roomy(p ir.Program) (ir.Program, []ir.Block) {
	numbers := func(l []int) []int { return append(slices.Clone(l), 77, 78)[:len(l)] }
	blocks := []ir.Block{}
	for _, b := range p.Blocks {
		var phis []ir.Phi
		for _, f := range b.Phis {
			phis = append(phis, ir.Phi{Dst: f.Dst, From: numbers(f.From), Args: numbers(f.Args)})
		}
		b.Phis = append(phis, ir.Phi{Dst: 79})[:len(phis)]
		b.Instrs = append(slices.Clone(b.Instrs), ir.Instr{Dst: 80})[:len(b.Instrs)]
		blocks = append(blocks, b)
	}
	blocks = append(blocks, ir.Block{Label: 81})
	return ir.Program{Blocks: blocks[:len(p.Blocks)]}, blocks
}

// spare: are lists' spare rooms as roomy filled them?
func spare(blocks []ir.Block) bool {
	last := len(blocks) - 1
	for _, b := range blocks[:last] {
		for _, f := range b.Phis {
			from, args := f.From[:len(f.From)+2], f.Args[:len(f.Args)+2]
			if !slices.Equal(from[len(f.From):], []int{77, 78}) || !slices.Equal(args[len(f.Args):], []int{77, 78}) {
				return false
			}
		}
		if b.Phis[:len(b.Phis)+1][len(b.Phis)].Dst != 79 || b.Instrs[:len(b.Instrs)+1][len(b.Instrs)] != (ir.Instr{Dst: 80}) {
			return false
		}
	}
	return blocks[last].Label == 81 && len(blocks[last].Instrs) == 0
}

// R6: what is handed in is as it was, spare room included, and isn't kept.
func TestAsItWas(t *testing.T) {
	for _, n := range []int{1, 2, 20} {
		want := many(n, 2, 9)
		p, blocks := roomy(want)
		s := Program(p)
		for _, b := range p.Blocks {
			for _, f := range b.Phis {
				Phi(f)
			}
		}
		if !ir.Same(p, want) || !spare(blocks) {
			t.Errorf("R6: a program of %d blocks was changed", n)
		}
		copied := strings.Clone(s)
		for i := range p.Blocks {
			p.Blocks[i] = ir.Block{Label: 5}
		}
		if s != copied || Program(want) != s {
			t.Error("R6, R8: an answer changed with what was handed in")
		}
	}
	f := ir.Phi{Dst: 1, From: []int{4, 3, 2}, Args: []int{9}}
	Phi(f)
	if f.Dst != 1 || !slices.Equal(f.From, []int{4, 3, 2}) || !slices.Equal(f.Args, []int{9}) {
		t.Error("R6: a phi that may not be was changed")
	}
}
