package strict

import (
	"fmt"
	"slices"
	"testing"

	"refinery/api"
	"refinery/ir"
	"refinery/word"
)

// reading: of each kind one that reads a register (and 0, that is set in the first block), and sets another one, if it does.
func reading(r, dst int) []ir.Instr {
	return []ir.Instr{
		copied(dst, r), add(dst, r, 0), add(dst, 0, r), add(dst, r, r), {Kind: ir.Do, Op: word.Rem, Dst: dst, A: 0, B: r},
		output(r), {Kind: ir.Store, A: r, Slot: 5}, {Kind: ir.Get, Dst: dst, A: r},
		{Kind: ir.Put, A: r, B: 0}, {Kind: ir.Put, A: 0, B: r}, {Kind: ir.Put, A: r, B: r},
	}
}

// ends: likewise, that go on where the block's end did, or don't.
func ends(l ir.Last, r int) []ir.Last {
	switch l.End {
	case ir.Jump:
		return []ir.Last{branch(r, l.Yes, l.Yes)}
	case ir.Branch:
		return []ir.Last{branch(r, l.Yes, l.No), branch(r, l.No, l.Yes)}
	}
	return []ir.Last{ret(r)}
}

func within(ok bool) api.Errno {
	if ok {
		return api.OK
	}
	return api.ErrUnset
}

// set20: sample with register 20 set in a block: by a phi, then by an instruction at each place in it, told by how many are ahead of it (a phi: -1).
func set20(place int) map[int]ir.Program {
	p := sample()
	p.Blocks[place] = with(p.Blocks[place], likeAhead(20, place))
	l := map[int]ir.Program{-1: p}
	for at := range len(p.Blocks[place].Instrs) + 1 {
		p := sample()
		p.Blocks[place].Instrs = slices.Insert(p.Blocks[place].Instrs, at, input(20))
		l[at] = p
	}
	return l
}

// P17.1: a register that is set at each place, by a phi or an instruction, and read at each one, by an instruction of each kind, an end, a phi's entry.
func TestUnset(t *testing.T) {
	for setter, reaches := range over() {
		for row, p := range set20(setter) {
			checks(t, fmt.Sprint("not read, set in ", setter, " at ", row), p, api.OK)
			for place, b := range p.Blocks {
				what := fmt.Sprint("set in ", setter, " at ", row, ", read in ", place)
				for at := range len(b.Instrs) + 1 {
					for _, x := range reading(20, 30) {
						q := p.Clone()
						q.Blocks[place].Instrs = slices.Insert(q.Blocks[place].Instrs, at, x)
						ok := slices.Contains(reaches, place) && (place != setter || row < at)
						checks(t, fmt.Sprintf("%s at %d by %+v", what, at, x), q, within(ok))
					}
				}
				for _, l := range ends(b.Last, 20) {
					q := p.Clone()
					q.Blocks[place].Last = l
					checks(t, fmt.Sprintf("%s by %+v", what, l), q, within(slices.Contains(reaches, place)))
				}
				for i, label := range ahead()[place] {
					x := likeAhead(30, place)
					x.Args[i] = 20
					q := p.Clone()
					q.Blocks[place] = with(q.Blocks[place], x)
					from := slices.IndexFunc(p.Blocks, func(b ir.Block) bool { return b.Label == label })
					checks(t, fmt.Sprintf("%s by %+v", what, x), q, within(slices.Contains(reaches, from)))
				}
			}
		}
	}
}

// P17.1: what is set nowhere, read at each place.
func TestNowhere(t *testing.T) {
	for _, r := range []int{20, 99999} {
		for place := range 6 {
			for _, x := range reading(r, 30) {
				p := sample()
				p.Blocks[place].Instrs = append(p.Blocks[place].Instrs, x)
				checks(t, fmt.Sprintf("%+v in %d", x, place), p, api.ErrUnset)
			}
			for _, l := range ends(sample().Blocks[place].Last, r) {
				p := sample()
				p.Blocks[place].Last = l
				checks(t, fmt.Sprintf("%+v in %d", l, place), p, api.ErrUnset)
			}
			for i := range ahead()[place] {
				p := sample()
				x := likeAhead(30, place)
				x.Args[i] = r
				p.Blocks[place] = with(p.Blocks[place], x)
				checks(t, fmt.Sprintf("%+v in %d", x, place), p, api.ErrUnset)
			}
		}
	}
	checks(t, "register 0", program(block(0, ret(0))), api.ErrUnset)
	checks(t, "register 0, 1 is set", program(block(0, ret(0), input(1))), api.ErrUnset)
	checks(t, "what jump and trap don't read", program(block(0, jump(1)), block(1, trap())), api.OK)
	checks(t, "what const, in, load don't read", program(block(0, trap(), number(1, 2), input(2), ir.Instr{Kind: ir.Load, Dst: 3})), api.OK)
}

// P17.1: an instruction that reads what it sets itself doesn't have it set ahead.
func TestItself(t *testing.T) {
	for place := range 6 {
		for _, x := range reading(20, 20) {
			p := sample()
			p.Blocks[place].Instrs = append(p.Blocks[place].Instrs, x)
			checks(t, fmt.Sprintf("%+v in %d", x, place), p, api.ErrUnset)
		}
	}
}

// P17.1: a phi's entry is read at the end of the block from which one comes, not where the phi is.
func TestEntries(t *testing.T) {
	round := func(instrs []ir.Instr, l ...ir.Phi) ir.Program {
		return program(block(0, jump(1), input(0)), with(block(1, branch(0, 1, 2), instrs...), l...), block(2, trap()))
	}
	for _, c := range []struct {
		name        string
		enter, back int
		want        api.Errno
	}{
		{"0 each", 0, 0, api.OK},
		{"itself, coming round", 0, 1, api.OK},
		{"itself, coming in", 1, 0, api.ErrUnset},
		{"the other phi, coming round", 0, 2, api.OK},
		{"the other phi, coming in", 2, 0, api.ErrUnset},
		{"its block's instruction, coming round", 0, 3, api.OK},
		{"its block's instruction, coming in", 3, 0, api.ErrUnset},
		{"none, coming round", 0, 4, api.ErrUnset},
		{"none, coming in", 4, 0, api.ErrUnset},
	} {
		x, other := phi(1, [2]int{0, c.enter}, [2]int{1, c.back}), phi(2, [2]int{0, 0}, [2]int{1, 0})
		checks(t, c.name, round([]ir.Instr{input(3)}, x, other), c.want)
		checks(t, c.name+", behind the other one", round([]ir.Instr{input(3)}, other, x), c.want)
	}
	// Of two ways each sets one.
	two := func(left, right int) ir.Program {
		return program(
			block(0, branch(0, 5, 3), input(0)),
			block(5, jump(4), number(1, 1)),
			block(3, jump(4), number(2, 2)),
			with(block(4, ret(3)), phi(3, [2]int{3, right}, [2]int{5, left})))
	}
	checks(t, "of each way its own", two(1, 2), api.OK)
	checks(t, "the other way round", two(2, 1), api.ErrUnset)
	checks(t, "one for both", two(1, 1), api.ErrUnset)
	checks(t, "the other one for both", two(2, 2), api.ErrUnset)
	checks(t, "what is set ahead of both", two(0, 0), api.OK)
	checks(t, "the phi itself", two(3, 2), api.ErrUnset)
}

// P17.1: set on each way isn't set in a block that is over it; a phi is.
func TestEachWay(t *testing.T) {
	p := program(
		block(0, branch(0, 1, 2), input(0)),
		block(1, jump(3), number(1, 1)),
		block(2, jump(3), number(2, 2)),
		block(3, ret(1)))
	checks(t, "read behind two ways, set in the one", p, api.ErrUnset)
	p.Blocks[3].Last = ret(2)
	checks(t, "read behind two ways, set in the other", p, api.ErrUnset)
	p.Blocks[3] = with(block(3, ret(3)), phi(3, [2]int{1, 1}, [2]int{2, 2}))
	checks(t, "a phi of both", p, api.OK)
	p.Blocks[1].Last = trap()
	p.Blocks[3] = block(3, ret(2))
	checks(t, "the one way ends", p, api.OK)
	p.Blocks[0].Last, p.Blocks[1].Last = branch(0, 1, 3), branch(0, 2, 3)
	checks(t, "a way past it", p, api.ErrUnset)
	p.Blocks[3].Last = ret(1)
	checks(t, "a way past it, read behind", p, api.ErrUnset)
	p.Blocks[0].Last = branch(0, 1, 1)
	checks(t, "over it, though not right ahead", p, api.OK)
	late := program(block(0, jump(1), input(0)), block(1, branch(0, 2, 3), output(0)), block(2, branch(0, 1, 2), input(5)), block(3, ret(0)))
	checks(t, "set in a round", late, api.OK)
	late.Blocks[1].Instrs[0].A = 5
	checks(t, "set in a round, read at its beginning", late, api.ErrUnset)
	late.Blocks[1].Instrs[0].A, late.Blocks[3].Last.A = 0, 5
	checks(t, "set in a round, read behind it, where one may come ahead of that", late, api.ErrUnset)
	late.Blocks[1].Last, late.Blocks[2].Last = jump(2), branch(0, 1, 3)
	checks(t, "set in a round, read behind it", late, api.OK)
}
