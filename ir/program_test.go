package ir

import (
	"iter"
	"math"
	"slices"
	"testing"

	"refinery/word"
)

// sample: a program with something of all in it, each field another number.
func sample() Program {
	return Program{Blocks: []Block{
		{Label: 3, Instrs: []Instr{
			{Kind: Const, Dst: 1, N: 5}, {Kind: Do, Op: word.Mul, Dst: 2, A: 3, B: 4}, {Kind: Load, Dst: 6, Slot: 7},
		}, Last: Last{End: Branch, A: 8, Yes: 9, No: 12}},
		{Label: 9, Last: Last{End: Jump, Yes: 12}},
		{Label: 12, Phis: []Phi{
			{Dst: 10, From: []int{3, 9}, Args: []int{1, 2}}, {Dst: 11, From: []int{9}, Args: []int{6}},
		}, Instrs: []Instr{{Kind: Out, A: 10}}, Last: Last{End: Return, A: 11}},
	}}
}

// changes: each changes a program in one place only.
func changes() map[string]func(p *Program) {
	return map[string]func(p *Program){
		"label":         func(p *Program) { p.Blocks[1].Label++ },
		"end":           func(p *Program) { p.Blocks[1].Last.End = Trap },
		"end's A":       func(p *Program) { p.Blocks[2].Last.A++ },
		"Yes":           func(p *Program) { p.Blocks[0].Last.Yes++ },
		"No":            func(p *Program) { p.Blocks[0].Last.No++ },
		"what isn't of": func(p *Program) { p.Blocks[1].Last.No++ },
		"kind":          func(p *Program) { p.Blocks[0].Instrs[0].Kind = In },
		"op":            func(p *Program) { p.Blocks[0].Instrs[1].Op = word.Add },
		"Dst":           func(p *Program) { p.Blocks[0].Instrs[2].Dst++ },
		"A":             func(p *Program) { p.Blocks[2].Instrs[0].A++ },
		"B":             func(p *Program) { p.Blocks[0].Instrs[1].B++ },
		"N":             func(p *Program) { p.Blocks[0].Instrs[0].N++ },
		"slot":          func(p *Program) { p.Blocks[0].Instrs[2].Slot++ },
		"phi's Dst":     func(p *Program) { p.Blocks[2].Phis[1].Dst++ },
		"phi's From":    func(p *Program) { p.Blocks[2].Phis[0].From[1]++ },
		"phi's Args":    func(p *Program) { p.Blocks[2].Phis[0].Args[0]++ },
		"other order":   func(p *Program) { slices.Reverse(p.Blocks[2].Phis) },
		"blocks turned": func(p *Program) { slices.Reverse(p.Blocks) },
		"instrs turned": func(p *Program) { slices.Reverse(p.Blocks[0].Instrs) },
		"more From":     func(p *Program) { x := &p.Blocks[2].Phis[1]; x.From = append(x.From, 0) },
		"more Args":     func(p *Program) { x := &p.Blocks[2].Phis[1]; x.Args = append(x.Args, 0) },
		"more phis":     func(p *Program) { p.Blocks[1].Phis = append(p.Blocks[1].Phis, Phi{}) },
		"more instrs":   func(p *Program) { p.Blocks[1].Instrs = append(p.Blocks[1].Instrs, Instr{}) },
		"more blocks":   func(p *Program) { p.Blocks = append(p.Blocks, Block{}) },
		"fewer phis":    func(p *Program) { p.Blocks[2].Phis = p.Blocks[2].Phis[:1] },
		"fewer blocks":  func(p *Program) { p.Blocks = p.Blocks[:2] },
	}
}

// P3.2: Same of programs that differ in one place only; Clone is one of its own, both ways.
func TestSameAndClone(t *testing.T) {
	for name, change := range changes() {
		p, want := sample(), sample()
		if !Same(p, want) || !Same(p, p) {
			t.Fatal("a program isn't the same as itself")
		}
		q := p.Clone()
		change(&q)
		if Same(p, q) || Same(q, p) {
			t.Errorf("%s: two that differ are the same", name)
		}
		if !Same(p, want) {
			t.Errorf("%s: the copy's change changes what it was made of", name)
		}
		q = p.Clone()
		change(&p)
		if !Same(q, want) {
			t.Errorf("%s: the change of what it was made of changes the copy", name)
		}
	}
}

// roomy: the list with room behind it, that room filled with x.
func roomy[T any](l []T, x T) []T {
	n := len(l)
	return append(slices.Clip(l), x, x, x)[:n]
}

// spare: a sample whose lists all have spare room.
func spare() Program {
	p := sample()
	for i := range p.Blocks {
		b := &p.Blocks[i]
		for j := range b.Phis {
			b.Phis[j].From = roomy(b.Phis[j].From, 77)
			b.Phis[j].Args = roomy(b.Phis[j].Args, 77)
		}
		b.Phis = roomy(b.Phis, Phi{Dst: 77})
		b.Instrs = roomy(b.Instrs, Instr{Dst: 77})
	}
	p.Blocks = roomy(p.Blocks, Block{Label: 77})
	return p
}

// fillRoom: writes behind each list of a program, into its spare room, if it has any.
func fillRoom(p Program) {
	_ = append(p.Blocks, Block{Label: 5})
	for _, b := range p.Blocks {
		_ = append(b.Phis, Phi{Dst: 5})
		_ = append(b.Instrs, Instr{Dst: 5})
		for _, x := range b.Phis {
			_ = append(x.From, 5)
			_ = append(x.Args, 5)
		}
	}
}

// R6: what is handed in isn't changed, in its spare room either, and copies share none of it.
func TestSpareRoom(t *testing.T) {
	room := func(p Program) []int {
		l := []int{p.Blocks[:len(p.Blocks)+1][len(p.Blocks)].Label}
		for _, b := range p.Blocks {
			l = append(l, b.Phis[:len(b.Phis)+1][len(b.Phis)].Dst, b.Instrs[:len(b.Instrs)+1][len(b.Instrs)].Dst)
			for _, x := range b.Phis {
				l = append(l, x.From[:len(x.From)+1][len(x.From)], x.Args[:len(x.Args)+1][len(x.Args)])
			}
		}
		return l
	}
	p := spare()
	if !Same(p, sample()) {
		t.Fatal("spare room makes another program")
	}
	fillRoom(p.Clone())
	p.Check()
	p.Count()
	p.Regs()
	for range p.Instrs() {
	}
	for _, x := range room(p) {
		if x != 77 {
			t.Fatalf("spare room was changed: %v", room(p))
		}
	}
	q := p.Clone()
	fillRoom(p)
	if !Same(q, sample()) {
		t.Error("the copy changes with its maker's spare room")
	}
}

// R6: no two lists of a copy share memory, though those of the program do.
func TestCloneParts(t *testing.T) {
	from := []int{0}
	phis := []Phi{{From: from, Args: from}, {From: from, Args: from}}
	x := []Instr{{Kind: In}}
	p := Program{Blocks: []Block{{Phis: phis, Instrs: x}, {Phis: phis, Instrs: x}}}
	q := p.Clone()
	q.Blocks[0].Phis[0].From[0] = 1
	q.Blocks[0].Phis[1].Args[0] = 2
	q.Blocks[1].Instrs[0].Dst = 3
	q.Blocks[1].Phis[0].Dst = 4
	if from[0] != 0 || q.Blocks[0].Phis[0].Args[0] != 0 || q.Blocks[0].Phis[1].From[0] != 0 || q.Blocks[1].Phis[1].Args[0] != 0 || q.Blocks[0].Instrs[0].Dst != 0 || q.Blocks[0].Phis[0].Dst != 0 {
		t.Error("lists of a copy are shared")
	}
}

// R5, R7: no lists and empty lists are the same; a zero program has nothing.
func TestEmpty(t *testing.T) {
	var zero Program
	empty := Program{Blocks: []Block{}}
	if !Same(zero, empty) || !Same(empty, zero) || !Same(zero.Clone(), empty) || !Same(empty.Clone(), zero) {
		t.Error("programs of no blocks")
	}
	p := Program{Blocks: []Block{{Phis: []Phi{}, Instrs: []Instr{}}}}
	q := Program{Blocks: []Block{{}}}
	if !Same(p, q) || !Same(q, p) || !Same(p.Clone(), q) || Same(p, zero) || Same(zero, p) {
		t.Error("blocks of nothing")
	}
	p.Blocks[0].Phis = []Phi{{From: []int{}, Args: nil}}
	q.Blocks[0].Phis = []Phi{{From: nil, Args: []int{}}}
	if !Same(p, q) || !Same(p.Clone(), q.Clone()) {
		t.Error("phis of nothing")
	}
	if zero.Count() != 0 || zero.Regs() != 0 || !zero.Plain() {
		t.Error("the zero program")
	}
	for range zero.Instrs() {
		t.Error("an instruction of none")
	}
}

// P3.2: Count, Plain.
func TestCountAndPlain(t *testing.T) {
	if n := sample().Count(); n != 3+4+2 {
		t.Errorf("Count: %d", n)
	}
	if sample().Plain() {
		t.Error("a program with phis is plain")
	}
	for i, want := range []bool{true, true, false} {
		if p := (Program{Blocks: sample().Blocks[i : i+1]}); p.Plain() != want {
			t.Errorf("block %d: Plain: %v", i, p.Plain())
		}
	}
	p := Program{Blocks: []Block{{Phis: []Phi{{}}}, {}}}
	if p.Plain() || p.Count() != 3 {
		t.Error("a phi of nothing is a phi")
	}
	if p := (Program{Blocks: make([]Block, 401)}); p.Count() != 401 || !p.Plain() {
		t.Error("ends count alone")
	}
}

// P3.2: Regs: registers that are set or read, wherever; what a kind doesn't have isn't one.
func TestRegs(t *testing.T) {
	one := func(b Block) Program { return Program{Blocks: []Block{{}, b, {}}} }
	instr := func(x Instr) Program { return one(Block{Instrs: []Instr{{Kind: In, Dst: 1}, x, {Kind: In}}}) }
	last := func(l Last) Program { return one(Block{Last: l}) }
	phi := func(x Phi) Program { return one(Block{Phis: []Phi{{Dst: 1}, x, {}}}) }
	for name, c := range map[string]struct {
		p    Program
		want int
	}{
		"sample":     {sample(), 12},
		"trap":       {last(Last{End: Trap, A: 5}), 0},
		"jump":       {last(Last{End: Jump, A: 5, Yes: 6, No: 7}), 0},
		"return":     {last(Last{End: Return, A: 5}), 6},
		"branch":     {last(Last{End: Branch, A: 5, Yes: 9, No: 9}), 6},
		"return 0":   {last(Last{End: Return}), 1},
		"const":      {instr(Instr{Kind: Const, Dst: 5, A: 9, B: 9, N: 9, Slot: 9}), 6},
		"copy":       {instr(Instr{Kind: Copy, Dst: 2, A: 5, B: 9}), 6},
		"do, Dst":    {instr(Instr{Kind: Do, Dst: 5, A: 2, B: 3}), 6},
		"do, A":      {instr(Instr{Kind: Do, Dst: 2, A: 5, B: 3}), 6},
		"do, B":      {instr(Instr{Kind: Do, Dst: 2, A: 3, B: 5}), 6},
		"in":         {instr(Instr{Kind: In, Dst: 5, A: 9}), 6},
		"out":        {instr(Instr{Kind: Out, Dst: 9, A: 5, B: 9}), 6},
		"load":       {instr(Instr{Kind: Load, Dst: 5, A: 9, Slot: 15}), 6},
		"store":      {instr(Instr{Kind: Store, Dst: 9, A: 5, Slot: 15}), 6},
		"get":        {instr(Instr{Kind: Get, Dst: 2, A: 5, B: 9}), 6},
		"put":        {instr(Instr{Kind: Put, Dst: 9, A: 2, B: 5}), 6},
		"no kind":    {instr(Instr{Kind: Kinds, Dst: 9, A: 9, B: 9}), 2},
		"phi's Dst":  {phi(Phi{Dst: 5, From: []int{9}, Args: []int{2}}), 6},
		"phi's Args": {phi(Phi{Dst: 2, From: []int{9, 10}, Args: []int{5, 3}}), 6},
		"uneven phi": {phi(Phi{Dst: 2, Args: []int{3, 5}}), 6},
		"greatest":   {last(Last{End: Return, A: 99999}), 100000},
		"below 0":    {last(Last{End: Return, A: -5}), 0},
	} {
		if n := c.p.Regs(); n != c.want {
			t.Errorf("%s: Regs: %d, want %d", name, n, c.want)
		}
	}
	last(Last{End: Return, A: math.MaxInt}).Regs()
	last(Last{End: Return, A: math.MinInt}).Regs()
}

type placed struct {
	at int
	x  Instr
}

func collect(seq iter.Seq2[int, Instr], most int) []placed {
	var l []placed
	for at, x := range seq {
		if len(l) == most {
			break
		}
		l = append(l, placed{at, x})
	}
	return l
}

// P3.2: Instrs goes through them in order, stops when asked, may be gone through again, and isn't touched by what becomes of the program.
func TestInstrs(t *testing.T) {
	p := sample()
	p.Blocks = append(p.Blocks, Block{Label: 13, Instrs: []Instr{{Kind: In, Dst: 1}, {Kind: In, Dst: 2}}})
	var want []placed
	for i, b := range p.Clone().Blocks {
		for _, x := range b.Instrs {
			want = append(want, placed{i, x})
		}
	}
	if len(want) != 6 || want[3].at != 2 || want[5].at != 3 {
		t.Fatal("sample")
	}
	seq := p.Instrs()
	for most := range len(want) + 1 {
		for range 2 {
			if l := collect(seq, most); !slices.Equal(l, want[:most]) {
				t.Errorf("the first %d: %v", most, l)
			}
		}
	}
	calls := 0
	seq(func(int, Instr) bool {
		calls++
		return calls < 4
	})
	if calls != 4 {
		t.Errorf("stopped behind %d", calls)
	}
	seq(nil)
	p.Blocks[0].Instrs[0] = Instr{Kind: Put}
	p.Blocks[2].Instrs = nil
	p.Blocks[3] = Block{}
	if l := collect(seq, 10); !slices.Equal(l, want) {
		t.Errorf("the program is kept: %v", l)
	}
}
