package ir

import (
	"math"
	"testing"

	"refinery/api"
	"refinery/word"
)

// blocks: n blocks, labelled from 0 on, each a trap.
func blocks(n int) Program {
	var p Program
	for i := range n {
		p.Blocks = append(p.Blocks, Block{Label: i, Last: Last{End: Trap}})
	}
	return p
}

func checks(t *testing.T, name string, p Program, want api.Errno) {
	t.Helper()
	q := p.Clone()
	if err := p.Check(); err != want {
		t.Errorf("%s: %d, want %d", name, err, want)
	}
	if !Same(p, q) {
		t.Errorf("%s: the program was changed", name)
	}
}

// P3.2: how many blocks, how many of all.
func TestCheckSizes(t *testing.T) {
	checks(t, "sample", sample(), api.OK)
	checks(t, "none", Program{}, api.ErrMany)
	checks(t, "empty", Program{Blocks: []Block{}}, api.ErrMany)
	checks(t, "the zero block", Program{Blocks: make([]Block, 1)}, api.OK)
	for n, want := range map[int]api.Errno{1: api.OK, 399: api.OK, 400: api.OK, 401: api.ErrMany, 5000: api.ErrMany} {
		checks(t, "blocks", blocks(n), want)
	}
	for _, n := range []int{1, 400} {
		for more := range 3 {
			want := api.OK
			if more == 2 {
				want = api.ErrSize
			}
			free := 3999 - n + more
			p := blocks(n)
			p.Blocks[n-1].Instrs = make([]Instr, free)
			checks(t, "instrs", p, want)
			p = blocks(n)
			p.Blocks[n/2].Phis = make([]Phi, free)
			checks(t, "phis", p, want)
			p = blocks(n)
			p.Blocks[0].Instrs = make([]Instr, free-7)
			p.Blocks[n-1].Phis = make([]Phi, 7)
			checks(t, "both", p, want)
		}
	}
}

// around: numbers at a limit (from 0 up to below it), inside and outside.
func around(limit int) map[int]bool {
	return map[int]bool{math.MinInt: false, -limit: false, -1: false, 0: true, 1: true, limit - 1: true, limit: false, limit + 1: false, math.MaxInt: false}
}

func within(ok bool) api.Errno {
	if ok {
		return api.OK
	}
	return api.ErrRange
}

// P3.2: labels, registers and slots at their limits.
func TestCheckLimits(t *testing.T) {
	for n, ok := range around(100000) {
		p := blocks(1)
		p.Blocks[0].Label = n
		checks(t, "label", p, within(ok))

		for k := range Kinds {
			for _, x := range []Instr{{Kind: k, Dst: n}, {Kind: k, A: n}, {Kind: k, B: n}} {
				p := blocks(1)
				p.Blocks[0].Instrs = []Instr{x}
				want := within(ok)
				if n != 0 && x.Only() != x {
					want = api.ErrForm
				}
				checks(t, "register", p, want)
			}
		}
		for _, e := range []End{Branch, Return} {
			p := blocks(1)
			p.Blocks[0].Last = Last{End: e, A: n}
			checks(t, "end's register", p, within(ok))
		}
		p = blocks(2)
		p.Blocks[0].Phis = []Phi{{Dst: n}}
		checks(t, "phi", p, within(ok))
		p.Blocks[0].Phis = []Phi{{From: []int{0, 1}, Args: []int{n, 0}}}
		checks(t, "phi's first", p, within(ok))
		p.Blocks[0].Phis = []Phi{{From: []int{0, 1}, Args: []int{0, n}}}
		checks(t, "phi's second", p, within(ok))
	}
	for n, ok := range around(16) {
		for _, k := range []Kind{Load, Store} {
			p := blocks(1)
			p.Blocks[0].Instrs = []Instr{{Kind: k, Slot: n}}
			checks(t, "slot", p, within(ok))
		}
	}
	for _, n := range []int64{math.MinInt64, -1, 1, math.MaxInt64} {
		p := blocks(1)
		p.Blocks[0].Instrs = []Instr{{Kind: Const, N: n}}
		checks(t, "any number", p, api.OK)
	}
}

// P3.2: kinds, ops, ends that there are not.
func TestCheckKinds(t *testing.T) {
	for i := range 256 {
		p := blocks(1)
		p.Blocks[0].Instrs = []Instr{{Kind: Kind(i)}}
		want := api.OK
		if Kind(i) >= Kinds {
			want = api.ErrKind
		}
		checks(t, "kind", p, want)

		p.Blocks[0].Instrs = []Instr{{Kind: Do, Op: word.Op(i)}}
		want = api.OK
		if word.Op(i) >= word.Ops {
			want = api.ErrKind
		}
		checks(t, "op", p, want)

		p = blocks(1)
		p.Blocks[0].Last = Last{End: End(i)}
		want = api.OK
		if End(i) >= Ends {
			want = api.ErrKind
		}
		checks(t, "end", p, want)
	}
}

// P3.2: what a kind or an end doesn't have is 0.
func TestCheckForms(t *testing.T) {
	for k := range Kinds {
		for _, x := range []Instr{{Op: 1}, {Op: word.Ops}, {Dst: 1}, {A: 1}, {B: 1}, {N: 1}, {Slot: 1}, {Dst: -1}, {Slot: 16}} {
			x.Kind = k
			want := api.OK
			switch {
			case k == Do && x.Op == word.Ops:
				want = api.ErrKind
			case x != x.Only():
				want = api.ErrForm
			case x.Dst < 0 || x.Slot > 15:
				want = api.ErrRange
			}
			p := blocks(1)
			p.Blocks[0].Instrs = []Instr{x}
			checks(t, "instruction", p, want)
		}
	}
	for e := range Ends {
		for _, l := range []Last{{A: 1}, {Yes: 1}, {No: 1}, {A: -1}} {
			l.End = e
			want := api.OK
			switch {
			case l != l.Only():
				want = api.ErrForm
			case l.A < 0:
				want = api.ErrRange
			}
			p := blocks(2)
			p.Blocks[0].Last = l
			checks(t, "end", p, want)
		}
	}
}

// P3.2: labels that no block has, that two have.
func TestCheckLabels(t *testing.T) {
	for _, label := range []int{math.MinInt, -1, 2, 99999, 100000, math.MaxInt} {
		for _, l := range []Last{{Yes: label}, {End: Branch, Yes: label}, {End: Branch, No: label}, {End: Branch, Yes: label, No: label}} {
			p := blocks(2)
			p.Blocks[1].Last = l
			checks(t, "end", p, api.ErrNone)
		}
		p := blocks(2)
		p.Blocks[0].Phis = []Phi{{From: []int{label}, Args: []int{0}}}
		checks(t, "phi", p, api.ErrNone)
		p.Blocks[0].Phis = []Phi{{From: []int{0, label}, Args: []int{0, 0}}}
		checks(t, "phi's second", p, api.ErrNone)
	}
	for _, at := range [][2]int{{0, 1}, {0, 399}, {200, 399}} {
		p := blocks(400)
		p.Blocks[at[1]].Label = p.Blocks[at[0]].Label
		checks(t, "twice", p, api.ErrTwice)
	}
	p := blocks(3)
	p.Blocks[0].Label, p.Blocks[2].Label = 9, 4
	p.Blocks[0].Last = Last{End: Branch, Yes: 4, No: 1}
	checks(t, "labels needn't rise from block to block", p, api.OK)
}

// P3.2: a phi's labels rise, and there are as many registers.
func TestCheckPhis(t *testing.T) {
	for name, c := range map[string]struct {
		x    Phi
		want api.Errno
	}{
		"none":         {Phi{}, api.OK},
		"empty":        {Phi{From: []int{}, Args: []int{}}, api.OK},
		"all":          {Phi{From: []int{0, 1, 2}, Args: []int{5, 5, 5}}, api.OK},
		"some":         {Phi{From: []int{2}, Args: []int{0}}, api.OK},
		"fewer Args":   {Phi{From: []int{0, 1}, Args: []int{5}}, api.ErrForm},
		"fewer From":   {Phi{From: []int{0}, Args: []int{5, 6}}, api.ErrForm},
		"no Args":      {Phi{From: []int{0}}, api.ErrForm},
		"no From":      {Phi{Args: []int{0}}, api.ErrForm},
		"twice":        {Phi{From: []int{1, 1}, Args: []int{5, 5}}, api.ErrTwice},
		"falling":      {Phi{From: []int{1, 0}, Args: []int{5, 5}}, api.ErrTwice},
		"third falls":  {Phi{From: []int{0, 2, 1}, Args: []int{5, 5, 5}}, api.ErrTwice},
		"third again":  {Phi{From: []int{0, 1, 1}, Args: []int{5, 5, 5}}, api.ErrTwice},
		"form, Dst":    {Phi{Dst: -1, From: []int{7}}, api.ErrForm},
		"Dst, none":    {Phi{Dst: -1, From: []int{7}, Args: []int{-1}}, api.ErrRange},
		"none, range":  {Phi{From: []int{7}, Args: []int{-1}}, api.ErrNone},
		"none, twice":  {Phi{From: []int{1, -1}, Args: []int{0, 0}}, api.ErrNone},
		"twice, range": {Phi{From: []int{1, 0}, Args: []int{0, -1}}, api.ErrTwice},
		"range, none":  {Phi{From: []int{1, 7}, Args: []int{-1, 0}}, api.ErrRange},
		"range, twice": {Phi{From: []int{1, 1}, Args: []int{100000, 0}}, api.ErrRange},
	} {
		p := blocks(3)
		p.Blocks[1].Phis = []Phi{{Dst: 3}, c.x}
		checks(t, name, p, c.want)
	}
}

// fault is a change that makes an error of the program rich.
type fault struct {
	name string
	make func(p *Program)
	err  api.Errno
}

// faults: in the order of Check's sentence; of any two that can be in one program the first is answered.
func faults() []fault {
	var l []fault
	add := func(name string, err api.Errno, f func(p *Program)) { l = append(l, fault{name, f, err}) }
	add("many", api.ErrMany, func(p *Program) { p.Blocks = append(p.Blocks, make([]Block, 400)...) })
	add("size", api.ErrSize, func(p *Program) { p.Blocks[0].Instrs = append(p.Blocks[0].Instrs, make([]Instr, 4000)...) })
	add("first label", api.ErrRange, func(p *Program) { p.Blocks[0].Label = -1 })
	add("label twice", api.ErrTwice, func(p *Program) { p.Blocks[2].Label = p.Blocks[1].Label })
	add("last label", api.ErrRange, func(p *Program) { p.Blocks[3].Label = 100000 })
	for i := range 2 {
		phi := func(j int, f func(x *Phi)) func(*Program) { return func(p *Program) { f(&p.Blocks[i].Phis[j]) } }
		instr := func(j int, f func(x *Instr)) func(*Program) {
			return func(p *Program) { f(&p.Blocks[i].Instrs[j]) }
		}
		for j := range 2 {
			add("phi's form", api.ErrForm, phi(j, func(x *Phi) { x.Args = append(x.Args, 0) }))
			add("phi's Dst", api.ErrRange, phi(j, func(x *Phi) { x.Dst = -1 }))
			add("phi's first label", api.ErrNone, phi(j, func(x *Phi) { x.From[0] = -5 }))
			add("phi's first register", api.ErrRange, phi(j, func(x *Phi) { x.Args[0] = -1 }))
			add("phi's next label", api.ErrTwice, phi(j, func(x *Phi) { x.From[1] = x.From[0] }))
			add("phi's next register", api.ErrRange, phi(j, func(x *Phi) { x.Args[1] = 100000 }))
		}
		for j := range 2 {
			add("kind", api.ErrKind, instr(j, func(x *Instr) { x.Kind = Kinds }))
			add("op", api.ErrKind, instr(j, func(x *Instr) { x.Op = word.Ops }))
			add("form", api.ErrForm, instr(j, func(x *Instr) { x.N = 1 }))
			add("register", api.ErrRange, instr(j, func(x *Instr) { x.B = -1 }))
		}
		add("end", api.ErrKind, func(p *Program) { p.Blocks[i].Last.End = Ends })
		add("end's form", api.ErrForm, func(p *Program) { p.Blocks[i].Last.End = Jump })
		add("end's register", api.ErrRange, func(p *Program) { p.Blocks[i].Last.A = 100000 })
		add("end's label", api.ErrNone, func(p *Program) { p.Blocks[i].Last.No = 9 })
	}
	return l
}

// rich: a program in which every fault has its place.
func rich() Program {
	p := blocks(4)
	for i := range 2 {
		b := &p.Blocks[i]
		for range 2 {
			b.Phis = append(b.Phis, Phi{Dst: 1, From: []int{0, 3}, Args: []int{2, 3}})
			b.Instrs = append(b.Instrs, Instr{Kind: Do, Dst: 1, A: 2, B: 3})
		}
		b.Last = Last{End: Branch, A: 1, Yes: 0, No: 3}
	}
	return p
}

// P3.2, R2: each error alone, and any two of them, made in either order: the first is answered.
func TestCheckOrder(t *testing.T) {
	checks(t, "rich", rich(), api.OK)
	l := faults()
	for i, f := range l {
		p := rich()
		f.make(&p)
		checks(t, f.name, p, f.err)
		for j, g := range l {
			if masks(l, i, j) {
				continue
			}
			p, first := rich(), l[min(i, j)]
			f.make(&p)
			g.make(&p)
			checks(t, f.name+" and "+g.name, p, first.err)
		}
	}
}

// masks: of two faults in one place the one may undo the other, or make it another one.
func masks(l []fault, i, j int) bool {
	switch l[i].name + " and " + l[j].name {
	case "phi's next label and phi's first label", "phi's first label and phi's next label":
		return true
	case "end and end's form", "end's form and end":
		return true
	}
	return false
}
