package parse

import (
	"math"
	"strconv"
	"strings"
	"testing"

	"refinery/api"
	"refinery/ir"
	"refinery/word"
)

// reads: s is read as that program, and the place is 0.
func reads(t *testing.T, s string, want ir.Program) {
	t.Helper()
	p, at, err := Parse(s)
	if !ir.Same(p, want) || at != 0 || err != api.OK {
		t.Errorf("P5.1: Parse(%.200q): %v, %d, %d, not %v", s, p, at, err, want)
	}
}

// fails: s has that error there, and no program beside it.
func fails(t *testing.T, s string, at int, err api.Errno) {
	t.Helper()
	p, place, e := Parse(s)
	if place != at || e != err {
		t.Errorf("P5.1: Parse(%.200q): error %d at %d, not %d at %d", s, e, place, err, at)
	}
	if p.Blocks != nil {
		t.Errorf("R3: Parse(%.200q): a program beside error %d", s, e)
	}
}

// one: a program of one block, labelled 0.
func one(last ir.Last, instrs ...ir.Instr) ir.Program {
	return ir.Program{Blocks: []ir.Block{{Instrs: instrs, Last: last}}}
}

// line: a line without its end, and what it is read as.
type line[T any] struct {
	text string
	is   T
}

// instrs: each form, with numbers of its own at each place; and each op.
func instrs() []line[ir.Instr] {
	l := []line[ir.Instr]{
		{"%1 = 5", ir.Instr{Kind: ir.Const, Dst: 1, N: 5}},
		{"%1 = -5", ir.Instr{Kind: ir.Const, Dst: 1, N: -5}},
		{"%1 = 0", ir.Instr{Kind: ir.Const, Dst: 1}},
		{"%1 = %2", ir.Instr{Kind: ir.Copy, Dst: 1, A: 2}},
		{"%1 = in", ir.Instr{Kind: ir.In, Dst: 1}},
		{"%1 = load $2", ir.Instr{Kind: ir.Load, Dst: 1, Slot: 2}},
		{"%1 = get %2", ir.Instr{Kind: ir.Get, Dst: 1, A: 2}},
		{"out %1", ir.Instr{Kind: ir.Out, A: 1}},
		{"store $1, %2", ir.Instr{Kind: ir.Store, Slot: 1, A: 2}},
		{"put %1, %2", ir.Instr{Kind: ir.Put, A: 1, B: 2}},
	}
	for o, name := range strings.Fields("add sub mul div rem and or xor shl shr eq lt") {
		l = append(l, line[ir.Instr]{"%1 = " + name + " %2, %3", ir.Instr{Kind: ir.Do, Op: word.Op(o), Dst: 1, A: 2, B: 3}})
	}
	return l
}

// lasts: each form, with labels 0, 4 and 5.
func lasts() []line[ir.Last] {
	return []line[ir.Last]{
		{"jump @4", ir.Last{End: ir.Jump, Yes: 4}},
		{"br %1, @4, @5", ir.Last{End: ir.Branch, A: 1, Yes: 4, No: 5}},
		{"br %1, @5, @0", ir.Last{End: ir.Branch, A: 1, Yes: 5}},
		{"br %3, @4, @4", ir.Last{End: ir.Branch, A: 3, Yes: 4, No: 4}},
		{"ret %1", ir.Last{End: ir.Return, A: 1}},
		{"trap", ir.Last{End: ir.Trap}},
	}
}

// P5.1: the chapter's example.
func TestExample(t *testing.T) {
	reads(t, "@0:\ntrap", one(ir.Last{End: ir.Trap}))
	reads(t, "@0:\n  trap\n", one(ir.Last{End: ir.Trap}))
}

// P5.1: each instruction alone, and with each other ahead of it.
func TestInstrs(t *testing.T) {
	trap := ir.Last{End: ir.Trap}
	for _, a := range instrs() {
		reads(t, "@0:\n"+a.text+"\ntrap", one(trap, a.is))
		for _, b := range instrs() {
			reads(t, "@0:\n"+a.text+"\n"+b.text+"\ntrap\n", one(trap, a.is, b.is))
			reads(t, "@0:\n"+a.text+"\n"+b.text+"\n"+a.text+"\ntrap", one(trap, a.is, b.is, a.is))
		}
	}
}

// P5.1: each end alone, behind instructions, and in each block of three; the last Line or the text's end behind it.
func TestEnds(t *testing.T) {
	x := ir.Instr{Kind: ir.Out, A: 7}
	for _, a := range lasts() {
		for _, b := range lasts() {
			for _, c := range lasts() {
				want := ir.Program{Blocks: []ir.Block{
					{Label: 0, Last: a.is},
					{Label: 5, Instrs: []ir.Instr{x}, Last: b.is},
					{Label: 4, Instrs: []ir.Instr{x, x}, Last: c.is},
				}}
				s := "@0:\n" + a.text + "\n@5:\nout %7\n" + b.text + "\n@4:\nout %7\nout %7\n" + c.text
				reads(t, s, want)
				reads(t, s+"\n", want)
				reads(t, s+"\n\n \n#", want)
				reads(t, s+" # end", want)
			}
		}
	}
}

// P5.1: an instruction isn't of the wrong end, nor an end of the wrong instruction: each with each.
func TestInstrsAndEnds(t *testing.T) {
	for _, x := range instrs() {
		for _, l := range lasts() {
			want := one(l.is, x.is)
			want.Blocks = append(want.Blocks, ir.Block{Label: 4, Instrs: []ir.Instr{x.is}, Last: ir.Last{End: ir.Trap}}, ir.Block{Label: 5, Last: l.is})
			reads(t, "@0:\n"+x.text+"\n"+l.text+"\n@4:\n"+x.text+"\ntrap\n@5:\n"+l.text, want)
		}
	}
}

// P5.1: numbers up to the limits of 64 bits.
func TestNumbers(t *testing.T) {
	for _, n := range []int64{math.MinInt64, math.MinInt64 + 1, math.MinInt32, -100000, -1, 0, 1, 99999, 100000, math.MaxInt32, 1 << 53, math.MaxInt64 - 1, math.MaxInt64} {
		text := strconv.FormatInt(n, 10)
		reads(t, "@0:\n%1 = "+text+"\ntrap", one(ir.Last{End: ir.Trap}, ir.Instr{Kind: ir.Const, Dst: 1, N: n}))
		reads(t, "@0:\n%1="+text+"#\ntrap", one(ir.Last{End: ir.Trap}, ir.Instr{Kind: ir.Const, Dst: 1, N: n}))
	}
	fails(t, "@0:\n%1 = 9223372036854775808\ntrap", 9, api.ErrToken)
	fails(t, "@0:\n%1 = -9223372036854775809\ntrap", 9, api.ErrToken)
}

// P5.1: programs of many blocks, up to the limit, blocks in any order; too many are Check's error, at the text's end.
func TestManyBlocks(t *testing.T) {
	for _, n := range []int{1, 2, 3, 50, 399, 400, 401, 402, 1000} {
		var s strings.Builder
		var want ir.Program
		for i := range n {
			label := (i*7 + 99000) % 100000
			s.WriteString("@" + strconv.Itoa(label) + ":\n%" + strconv.Itoa(i) + " = in\nret %" + strconv.Itoa(i) + "\n")
			want.Blocks = append(want.Blocks, ir.Block{Label: label, Instrs: []ir.Instr{{Kind: ir.In, Dst: i}}, Last: ir.Last{End: ir.Return, A: i}})
		}
		if n <= 400 {
			reads(t, s.String(), want)
		} else {
			fails(t, s.String(), s.Len(), api.ErrMany)
		}
	}
}

// P5.1: programs of many instructions, up to the limit; too many are Check's error, at the text's end.
func TestManyInstrs(t *testing.T) {
	for _, n := range []int{3998, 3999, 4000, 10000} {
		s := "@0:\n" + strings.Repeat("out %1\n", n) + "trap"
		if n > 3999 {
			fails(t, s, len(s), api.ErrSize)
			continue
		}
		p, at, err := Parse(s)
		if err != api.OK || at != 0 || p.Count() != n+1 || len(p.Blocks) != 1 {
			t.Errorf("P5.1: %d instructions: %d, %d", n, at, err)
		}
	}
}

// P5.1: lines without tokens wherever a line begins, blanks and notes between all tokens.
func TestGaps(t *testing.T) {
	want := ir.Program{Blocks: []ir.Block{
		{Label: 0, Instrs: []ir.Instr{{Kind: ir.Do, Op: word.Add, Dst: 1, A: 2, B: 3}, {Kind: ir.Store, Slot: 4, A: 5}}, Last: ir.Last{End: ir.Branch, A: 1, Yes: 7}},
		{Label: 7, Last: ir.Last{End: ir.Return, A: 1}},
	}}
	lines := []string{"@0 :", "%1 = add %2 , %3", "store $4 , %5", "br %1 , @7 , @0", "@7 :", "ret %1"}
	for _, empty := range []string{"", "\n", " \n", "#\n", "  # %01 A \xff\n", "\n\n\n", " \n#@0:\n\n   \n"} {
		for _, ahead := range []string{"", " ", "     "} {
			for _, behind := range []string{"\n", " \n", "#\n", "  # trap: \x00\n"} {
				for _, gap := range []string{" ", "    "} {
					s := empty
					for _, x := range lines {
						s += ahead + strings.ReplaceAll(x, " ", gap) + behind + empty
					}
					reads(t, s, want)
					reads(t, s+"  ", want)
					reads(t, s+" # the end", want)
				}
			}
		}
	}
	reads(t, "@0:\n%1=add%2,%3\nstore$4,%5\nbr%1,@7,@0\n@7:\nret%1", want)
	for i := range lines {
		for _, empty := range []string{"\n", "  #\n", "\n\n"} {
			all := append([]string(nil), lines...)
			all[i] = empty + all[i]
			reads(t, strings.Join(all, "\n"), want)
			reads(t, strings.Join(all, " #\n")+"\n", want)
		}
	}
}

// P5.1: a line can't be parted: a Line between any two tokens of one is ErrForm, where it is.
func TestPartedLines(t *testing.T) {
	for _, x := range instrs() {
		for i, c := range x.text {
			if c == ' ' {
				fails(t, "@0:\n"+x.text[:i]+"\n"+x.text[i:]+"\ntrap", 4+i, api.ErrForm)
				fails(t, "@0:\n"+x.text[:i]+" #"+x.text[i:]+"\ntrap", 4+len(x.text)+2, api.ErrForm)
			}
		}
	}
	for _, l := range lasts() {
		for i, c := range l.text {
			if c == ' ' {
				fails(t, "@0:\n"+l.text[:i]+"\n"+l.text[i:]+"\n", 4+i, api.ErrForm)
				fails(t, "@0:\n"+l.text[:i], 4+i, api.ErrForm)
				fails(t, "@0:\n"+l.text[:i]+"  #", 4+i+3, api.ErrForm)
			}
		}
	}
	fails(t, "@0\n:\ntrap", 2, api.ErrForm)
}

// P5.1: a text without blocks has as many as Check doesn't take.
func TestNothing(t *testing.T) {
	for _, s := range []string{"", " ", "\n", "#", "# @0:", "\n\n  \n", "#\n#", "   # \n"} {
		fails(t, s, len(s), api.ErrMany)
	}
}

// P5.1: what is to have a Line behind it can't have the text's end instead.
func TestEndsTooEarly(t *testing.T) {
	fails(t, "@0", 2, api.ErrForm)
	fails(t, "@0:", 3, api.ErrForm)
	fails(t, "@0:  # a", 8, api.ErrForm)
	fails(t, "@0:\n", 4, api.ErrForm)
	fails(t, "@0:\n\n  ", 7, api.ErrForm)
	fails(t, "@0:\ntrap\n@1:", 12, api.ErrForm)
	fails(t, "@0:\ntrap\n@1:\n", 13, api.ErrForm)
	for _, x := range instrs() {
		s := "@0:\n" + x.text
		fails(t, s, len(s), api.ErrForm)
		fails(t, s+"\n", len(s)+1, api.ErrForm)
		fails(t, s+"\n#\n", len(s)+3, api.ErrForm)
	}
}

// P5.1: a block has one label ahead, one end behind, and nothing stands beside it.
func TestOutOfPlace(t *testing.T) {
	fails(t, "trap", 0, api.ErrForm)
	fails(t, "\n  trap", 3, api.ErrForm)
	fails(t, "%1 = in\n@0:\ntrap", 0, api.ErrForm)
	fails(t, ":\ntrap", 0, api.ErrForm)
	fails(t, "0:\ntrap", 0, api.ErrForm)
	fails(t, "@0:\n@1:\ntrap", 4, api.ErrForm)
	fails(t, "@0:\nout %1\n@1:\ntrap", 11, api.ErrForm)
	fails(t, "@0: trap", 4, api.ErrForm)
	fails(t, "@0:@1:\ntrap", 3, api.ErrForm)
	fails(t, "@0::\ntrap", 3, api.ErrForm)
	fails(t, "@0,\ntrap", 2, api.ErrForm)
	fails(t, "@0=\ntrap", 2, api.ErrForm)
	for _, l := range lasts() {
		s := "@0:\n" + l.text + "\n"
		fails(t, s+"trap", len(s), api.ErrForm)
		fails(t, s+"\n out %1", len(s)+2, api.ErrForm)
		fails(t, s+"%1 = 5\n@4:\ntrap", len(s), api.ErrForm)
		fails(t, s+":", len(s), api.ErrForm)
		fails(t, s[:len(s)-1]+" @4:\ntrap", len(s), api.ErrForm)
		fails(t, s[:len(s)-1]+" trap", len(s), api.ErrForm)
	}
}

// P5.1: words that begin nothing, or stand where another kind of word is to be.
func TestWords(t *testing.T) {
	for _, s := range []string{"a", "phi", "ou", "outt", "puts", "traps", "jmp", "branch", "return", "add", "lt", "less", "in", "load", "get", "copy", "const"} {
		fails(t, "@0:\n"+s, 4, api.ErrForm)
		fails(t, "@0:\n"+s+" %1\ntrap", 4, api.ErrForm)
	}
	for _, s := range []string{"a", "phi", "inn", "loads", "addd", "less", "neg", "not", "out", "store", "put", "jump", "br", "ret", "trap", ":", "=", ","} {
		fails(t, "@0:\n%1 = "+s+"\ntrap", 9, api.ErrForm)
		fails(t, "@0:\n%1 = "+s+" %1, %2\ntrap", 9, api.ErrForm)
	}
	fails(t, "@0:\n%1 = phi %2 @0\ntrap", 9, api.ErrForm)
	fails(t, "@0:\n%1 = add, %2, %3\ntrap", 12, api.ErrForm)
	fails(t, "@0:\n%1 = add %2 %3\ntrap", 16, api.ErrForm)
	fails(t, "@0:\n%1 = add %2, 3\ntrap", 17, api.ErrForm)
	fails(t, "@0:\n%1 = $3\n", 9, api.ErrForm)
	fails(t, "@0:\n%1 in\ntrap", 7, api.ErrForm)
	fails(t, "@0:\n%1 : in\ntrap", 7, api.ErrForm)
	fails(t, "@0:\n%1 = -5, 6\ntrap", 11, api.ErrForm)
	fails(t, "@0:\nret 5", 8, api.ErrForm)
	fails(t, "@0:\njump 0", 9, api.ErrForm)
	fails(t, "@0:\njump %0", 9, api.ErrForm)
	fails(t, "@0:\njump @0:", 11, api.ErrForm)
	fails(t, "@0:\ntrap:", 8, api.ErrForm)
}
