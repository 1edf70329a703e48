package show

import (
	"math"
	"strconv"
	"strings"
	"testing"

	"refinery/ir"
	"refinery/word"
)

func is(t *testing.T, what any, got, want string) {
	t.Helper()
	if got != want {
		t.Errorf("P6.1: of %+v: %q, not %q", what, got, want)
	}
}

// form: how a kind's instruction is printed: D, A, B stand for its registers, S for its slot.
type form struct {
	x    ir.Instr
	text string
}

// forms: each kind but Const, whose number has tests of its own; of Do each op.
func forms() []form {
	l := []form{
		{ir.Instr{Kind: ir.Copy}, "%D = %A"},
		{ir.Instr{Kind: ir.In}, "%D = in"},
		{ir.Instr{Kind: ir.Out}, "out %A"},
		{ir.Instr{Kind: ir.Load}, "%D = load $S"},
		{ir.Instr{Kind: ir.Store}, "store $S, %A"},
		{ir.Instr{Kind: ir.Get}, "%D = get %A"},
		{ir.Instr{Kind: ir.Put}, "put %A, %B"},
	}
	for o, name := range strings.Fields("add sub mul div rem and or xor shl shr eq lt") {
		l = append(l, form{ir.Instr{Kind: ir.Do, Op: word.Op(o)}, "%D = " + name + " %A, %B"})
	}
	return l
}

// filled: a form with these numbers, as far as its kind has them.
func filled(f form, dst, a, b, slot int) (ir.Instr, string) {
	x := f.x
	x.Dst, x.A, x.B, x.Slot = dst, a, b, slot
	s := strings.NewReplacer("D", strconv.Itoa(dst), "A", strconv.Itoa(a), "B", strconv.Itoa(b), "S", strconv.Itoa(slot)).Replace(f.text)
	return x.Only(), s
}

// places: registers, or labels, at both limits and wherever a number gets one digit more.
func places() []int {
	return []int{0, 1, 7, 9, 10, 99, 100, 999, 1000, 9999, 10000, 12345, 99998, 99999}
}

// numbers: at the limits of 64 bits, below 0, 0, above.
func numbers() []int64 {
	return []int64{
		math.MinInt64, math.MinInt64 + 1, math.MinInt32 - 1, math.MinInt32, -100000, -10, -9, -1,
		0, 1, 9, 10, 99999, 100000, math.MaxInt32, math.MaxInt32 + 1, math.MaxUint32, 1 << 53, 1<<53 + 1, math.MaxInt64 - 1, math.MaxInt64,
	}
}

// P6.1: the chapter's examples.
func TestExamples(t *testing.T) {
	do := ir.Instr{Kind: ir.Do, Op: word.Add, Dst: 1, A: 2, B: 3}
	is(t, do, Instr(do), "%1 = add %2, %3")
	store := ir.Instr{Kind: ir.Store, Slot: 4, A: 5}
	is(t, store, Instr(store), "store $4, %5")
	br := ir.Last{End: ir.Branch, A: 1, Yes: 2, No: 3}
	is(t, br, Last(br), "br %1, @2, @3")
	f := ir.Phi{Dst: 1, From: []int{3, 5}, Args: []int{2, 4}}
	is(t, f, Phi(f), "%1 = phi %2 @3, %4 @5")
	p := ir.Program{Blocks: []ir.Block{{Last: ir.Last{End: ir.Trap}}}}
	is(t, p, Program(p), "@0:\n  trap\n")
}

// P6.1: each kind and each op, with registers at all places, at each of theirs another.
func TestInstrs(t *testing.T) {
	for _, f := range forms() {
		for _, dst := range places() {
			for _, a := range places() {
				for _, b := range places() {
					x, s := filled(f, dst, a, b, (dst+a+b)%16)
					is(t, x, Instr(x), s)
				}
			}
		}
	}
}

// P6.1: each slot.
func TestSlots(t *testing.T) {
	for slot := range 16 {
		n := strconv.Itoa(slot)
		for _, r := range places() {
			x := ir.Instr{Kind: ir.Load, Dst: r, Slot: slot}
			is(t, x, Instr(x), "%"+strconv.Itoa(r)+" = load $"+n)
			x = ir.Instr{Kind: ir.Store, A: r, Slot: slot}
			is(t, x, Instr(x), "store $"+n+", %"+strconv.Itoa(r))
		}
	}
}

// P6.1: numbers up to the limits of 64 bits.
func TestNumbers(t *testing.T) {
	for s, n := range map[string]int64{
		"-9223372036854775808": math.MinInt64,
		"-7":                   -7,
		"-1":                   -1,
		"0":                    0,
		"1":                    1,
		"9223372036854775807":  math.MaxInt64,
	} {
		x := ir.Instr{Kind: ir.Const, N: n}
		is(t, x, Instr(x), "%0 = "+s)
	}
	for _, n := range numbers() {
		for _, r := range places() {
			x := ir.Instr{Kind: ir.Const, Dst: r, N: n}
			is(t, x, Instr(x), "%"+strconv.Itoa(r)+" = "+strconv.FormatInt(n, 10))
		}
	}
}

// P6.1: each end, with registers and labels at all places.
func TestLasts(t *testing.T) {
	trap := ir.Last{End: ir.Trap}
	is(t, trap, Last(trap), "trap")
	for _, a := range places() {
		text := strconv.Itoa(a)
		l := ir.Last{End: ir.Jump, Yes: a}
		is(t, l, Last(l), "jump @"+text)
		l = ir.Last{End: ir.Return, A: a}
		is(t, l, Last(l), "ret %"+text)
		for _, yes := range places() {
			for _, no := range places() {
				l = ir.Last{End: ir.Branch, A: a, Yes: yes, No: no}
				is(t, l, Last(l), "br %"+text+", @"+strconv.Itoa(yes)+", @"+strconv.Itoa(no))
			}
		}
	}
}

// P6.1: phis of no entry, of one, of two, of as many as there may be blocks.
func TestPhis(t *testing.T) {
	for _, dst := range places() {
		begin := "%" + strconv.Itoa(dst) + " = phi"
		is(t, dst, Phi(ir.Phi{Dst: dst}), begin)
		is(t, dst, Phi(ir.Phi{Dst: dst, From: []int{}, Args: []int{}}), begin)
		for _, r := range places() {
			for _, from := range places() {
				one := begin + " %" + strconv.Itoa(r) + " @" + strconv.Itoa(from)
				f := ir.Phi{Dst: dst, From: []int{from}, Args: []int{r}}
				is(t, f, Phi(f), one)
				f = ir.Phi{Dst: dst, From: []int{from, 99999}, Args: []int{r, 0}}
				is(t, f, Phi(f), one+", %0 @99999")
			}
		}
	}
	f := ir.Phi{Dst: 99999}
	var entries []string
	for i := range 400 {
		from, r := i*250+249, (i*7919)%100000
		f.From, f.Args = append(f.From, from), append(f.Args, r)
		entries = append(entries, "%"+strconv.Itoa(r)+" @"+strconv.Itoa(from))
		is(t, i, Phi(f), "%99999 = phi "+strings.Join(entries, ", "))
	}
}

// P6.1: programs of no block, of one, of many: a line with each label, then phis, instructions, the end.
func TestPrograms(t *testing.T) {
	is(t, "none", Program(ir.Program{}), "")
	is(t, "none", Program(ir.Program{Blocks: []ir.Block{}}), "")
	is(t, "the zero block", Program(ir.Program{Blocks: make([]ir.Block, 1)}), "@0:\n  jump @0\n")
	p := ir.Program{Blocks: []ir.Block{
		{Label: 99999, Last: ir.Last{End: ir.Jump, Yes: 7}},
		{
			Label: 7,
			Phis: []ir.Phi{
				{Dst: 1, From: []int{7, 99999}, Args: []int{3, 4}},
				{Dst: 2},
				{Dst: 0, From: []int{7}, Args: []int{0}},
			},
			Last: ir.Last{End: ir.Branch, A: 1, Yes: 7, No: 0},
		},
		{
			Label:  0,
			Phis:   []ir.Phi{{Dst: 6, From: []int{7}, Args: []int{1}}},
			Instrs: []ir.Instr{{Dst: 5, N: -3}, {Kind: ir.Out, A: 5}, {Kind: ir.Out, A: 6}},
			Last:   ir.Last{End: ir.Jump, Yes: 12},
		},
		{Label: 12, Instrs: []ir.Instr{{Kind: ir.In, Dst: 5}}, Last: ir.Last{End: ir.Return, A: 5}},
		{Label: 13, Last: ir.Last{End: ir.Trap}},
	}}
	is(t, p, Program(p), `@99999:
  jump @7
@7:
  %1 = phi %3 @7, %4 @99999
  %2 = phi
  %0 = phi %0 @7
  br %1, @7, @0
@0:
  %6 = phi %1 @7
  %5 = -3
  out %5
  out %6
  jump @12
@12:
  %5 = in
  ret %5
@13:
  trap
`)
}

// lines: a program's text, put together of what the other calls answer.
func lines(p ir.Program) string {
	var l []string
	for _, b := range p.Blocks {
		l = append(l, "@"+strconv.Itoa(b.Label)+":\n")
		for _, f := range b.Phis {
			l = append(l, "  "+Phi(f)+"\n")
		}
		for _, x := range b.Instrs {
			l = append(l, "  "+Instr(x)+"\n")
		}
		l = append(l, "  "+Last(b.Last)+"\n")
	}
	return strings.Join(l, "")
}

// P6.1: programs of one to 400 blocks, with phis and instructions from none up, also where the text is longer than one that is read.
func TestManyBlocks(t *testing.T) {
	for _, n := range []int{1, 2, 3, 17, 399, 400} {
		for phis := range 3 {
			for instrs := range 8 {
				p := many(n, phis, instrs)
				if err := p.Check(); err != 0 {
					t.Fatalf("%d blocks, %d phis, %d instructions: error %d", n, phis, instrs, err)
				}
				s := Program(p)
				is(t, []int{n, phis, instrs}, s, lines(p))
				if count := strings.Count(s, "\n"); count != n+p.Count() {
					t.Errorf("P6.1: %d lines of %d blocks and %d within", count, n, p.Count())
				}
				if strings.Contains(s, " \n") || strings.Contains(s, "\n\n") {
					t.Errorf("P6.1: a blank at a line's end, or a line without tokens: %q", s)
				}
			}
		}
	}
	p := many(1, 0, 3999)
	is(t, "one block, as long as may be", Program(p), lines(p))
}

// many: so many blocks, each with so many phis and instructions, of all forms in turn.
func many(blocks, phis, instrs int) ir.Program {
	var p ir.Program
	all := forms()
	label := func(i int) int { return 99999 - (blocks-1-i%blocks)*3 }
	turn := 0
	for i := range blocks {
		b := ir.Block{Label: label(i)}
		for j := range phis {
			f := ir.Phi{Dst: 90000 + i*j}
			for k := range min(blocks, (i+j)%4) {
				f.From, f.Args = append(f.From, label(k)), append(f.Args, i*100+k)
			}
			b.Phis = append(b.Phis, f)
		}
		for range instrs {
			turn++
			if f := turn % (len(all) + 1); f < len(all) {
				x, _ := filled(all[f], turn, turn*31%100000, turn*17, turn%16)
				b.Instrs = append(b.Instrs, x)
			} else {
				b.Instrs = append(b.Instrs, ir.Instr{Dst: turn, N: int64(turn) * -0x123456789abcdef})
			}
		}
		b.Last = ir.Last{End: ir.End(i) % ir.Ends, A: i, Yes: label(i + 1), No: label(i * 7)}.Only()
		p.Blocks = append(p.Blocks, b)
	}
	return p
}
