package show

import (
	"strconv"
	"strings"
	"testing"

	"refinery/api"
	"refinery/ir"
	"refinery/parse"
	"refinery/word"
)

// returns: a plain program that may be, printed, is read as the same, and printed again the same; if its text is too long, that is told.
func returns(t *testing.T, p ir.Program) {
	t.Helper()
	s := Program(p)
	q, at, err := parse.Parse(s)
	if len(s) > api.MaxText {
		if err != api.ErrSize || at != api.MaxText {
			t.Errorf("P5: a text of %d bytes: error %d at %d", len(s), err, at)
		}
		return
	}
	if err != api.OK || at != 0 || !ir.Same(p, q) {
		t.Errorf("P5: %.500q: error %d at %d, or read as another", s, err, at)
		return
	}
	if again := Program(q); again != s {
		t.Errorf("P5: %.500q is printed again as %.500q", s, again)
	}
}

// readAlike: is a text read? If so, its print is to be read as the same, and printed again as it is.
func readAlike(t *testing.T, s string) bool {
	t.Helper()
	p, _, err := parse.Parse(s)
	if err != api.OK {
		return false
	}
	returns(t, p)
	return true
}

// one: a program of a block, labelled 500, and of those that its end goes on to.
func one(l ir.Last, instrs ...ir.Instr) ir.Program {
	p := ir.Program{Blocks: []ir.Block{{Label: 500, Instrs: instrs, Last: l}}}
	have := map[int]int{500: 1}
	for _, label := range l.Labels() {
		if have[label] == 0 {
			p.Blocks = append(p.Blocks, ir.Block{Label: label, Last: ir.Last{End: ir.Trap}})
		}
		have[label] = 1
	}
	return p
}

// P5: each instruction, with registers at all places and each slot, is read as it was.
func TestInstrsReturn(t *testing.T) {
	trap := ir.Last{End: ir.Trap}
	for _, f := range forms() {
		for _, a := range places() {
			for _, b := range places() {
				for _, slot := range []int{0, 1, 9, 10, 15} {
					x, _ := filled(f, a, b, a, slot)
					y, _ := filled(f, b, b, a, slot)
					returns(t, one(trap, x, y))
				}
			}
		}
	}
	for _, n := range numbers() {
		for _, r := range places() {
			returns(t, one(trap, ir.Instr{Dst: r, N: n}))
		}
	}
}

// P5: each end, with registers and labels at all places, is read as it was.
func TestLastsReturn(t *testing.T) {
	for _, a := range places() {
		for e := range ir.Ends {
			for _, yes := range places() {
				for _, no := range []int{0, yes, 500, 99999} {
					returns(t, one(ir.Last{End: e, A: a, Yes: yes, No: no}.Only()))
				}
			}
		}
	}
}

// P5: programs without instructions, of many blocks, of as many as may be; those whose text is too long are told to be.
func TestProgramsReturn(t *testing.T) {
	for _, n := range []int{1, 2, 3, 50, 399, 400} {
		for instrs := range 10 {
			returns(t, many(n, 0, instrs))
		}
	}
	returns(t, many(1, 0, 3999))
	wide := ir.Instr{Kind: ir.Do, Op: word.Xor, Dst: 99999, A: 99999, B: 99999}
	for n := 3300; n < 3999; n += 13 {
		p := one(ir.Last{End: ir.Trap})
		for range n {
			p.Blocks[0].Instrs = append(p.Blocks[0].Instrs, wide)
		}
		returns(t, p)
	}
}

// P5: a text of exactly 100000 bytes is read as what was printed, one of a byte more is too long.
func TestLongestReturns(t *testing.T) {
	for _, size := range []int{99999, 100000, 100001} {
		p := ir.Program{Blocks: []ir.Block{{Last: ir.Last{End: ir.Trap}}}}
		left := size - len("@0:\n  trap\n")
		n := left/26 + 1 // lines, each of at most 26 bytes
		for i := range n {
			digits := (left+i)/n - len("  %1 = \n")
			number, err := strconv.ParseInt(strings.Repeat("5", digits), 10, 64)
			if err != nil {
				t.Fatal(err)
			}
			p.Blocks[0].Instrs = append(p.Blocks[0].Instrs, ir.Instr{Dst: 1, N: number})
		}
		if n := len(Program(p)); n != size {
			t.Fatalf("%d bytes, not %d", n, size)
		}
		returns(t, p)
	}
}

// stream tells numbers without a pattern that a program would have, the same in each run.
type stream uint64

func (r *stream) next() uint64 {
	*r += 0x9e3779b97f4a7c15
	z := uint64(*r)
	z = (z ^ z>>30) * 0xbf58476d1ce4e5b9
	z = (z ^ z>>27) * 0x94d049bb133111eb
	return z ^ z>>31
}

func (r *stream) below(n int) int {
	return int(r.next() % uint64(n))
}

// some: a plain program that may be.
func (r *stream) some() ir.Program {
	wide := func() int { return []int{1, 10, 100, 100000}[r.below(4)] }
	first, step := r.below(wide()), 1+r.below(8000)
	labels := make([]int, 1+r.below(12))
	for i := range labels {
		labels[i] = (first + i*step) % 100000
	}
	reg := func() int { return r.below(wide()) }
	label := func() int { return labels[r.below(len(labels))] }
	var p ir.Program
	for _, l := range labels {
		b := ir.Block{Label: l}
		for range r.below(8) {
			x := ir.Instr{Kind: ir.Kind(r.below(int(ir.Kinds))), Op: word.Op(r.below(int(word.Ops))), Dst: reg(), A: reg(), B: reg(), Slot: r.below(16)}
			x.N = int64(r.next()) >> r.below(64)
			b.Instrs = append(b.Instrs, x.Only())
		}
		b.Last = ir.Last{End: ir.End(r.below(int(ir.Ends))), A: reg(), Yes: label(), No: label()}.Only()
		p.Blocks = append(p.Blocks, b)
	}
	return p
}

// P5: any plain programs; and their texts with other blanks, notes and lines without tokens.
func TestAnyReturn(t *testing.T) {
	var r stream
	for range 2000 {
		p := r.some()
		if err := p.Check(); err != api.OK || !p.Plain() {
			t.Fatalf("error %d", err)
		}
		returns(t, p)
		s := Program(p)
		is(t, p, s, lines(p))
		loose := strings.ReplaceAll(s, "\n", " # "+strconv.Itoa(r.below(1000))+"\n\n ")
		tight := strings.ReplaceAll(strings.ReplaceAll(s, " ", ""), "\n", "\n\n")
		for _, other := range []string{loose, tight} {
			if q, _, err := parse.Parse(other); err != api.OK || Program(q) != s {
				t.Errorf("P5: %q: error %d, or printed otherwise", other, err)
			}
		}
	}
}

// P5: texts of which each byte is another: those that are read.
func TestChangedTextsReturn(t *testing.T) {
	s := Program(ir.Program{Blocks: []ir.Block{
		{Label: 0, Instrs: []ir.Instr{{Dst: 1, N: -25}, {Kind: ir.Do, Op: word.Shl, Dst: 10, A: 1, B: 99}, {Kind: ir.Store, Slot: 14, A: 3}, {Kind: ir.Put, A: 4, B: 5}}, Last: ir.Last{End: ir.Branch, A: 10, Yes: 0, No: 21}},
		{Label: 21, Instrs: []ir.Instr{{Kind: ir.Load, Dst: 6, Slot: 10}, {Kind: ir.Get, Dst: 7, A: 6}, {Kind: ir.In, Dst: 8}, {Kind: ir.Copy, Dst: 9, A: 8}, {Kind: ir.Out, A: 9}}, Last: ir.Last{End: ir.Return, A: 7}},
		{Label: 3, Last: ir.Last{End: ir.Jump, Yes: 21}},
	}})
	read := 0
	for i := range len(s) {
		for c := range 256 {
			if readAlike(t, s[:i]+string([]byte{byte(c)})+s[i+1:]) {
				read++
			}
			if readAlike(t, s[:i]+string([]byte{byte(c)})+s[i:]) {
				read++
			}
		}
		if readAlike(t, s[:i]+s[i+1:]) {
			read++
		}
	}
	if read < 1000 {
		t.Errorf("%d texts alone are read", read)
	}
}
