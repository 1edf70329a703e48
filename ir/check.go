package ir

import (
	"refinery/api"
	"refinery/word"
)

// labels are those that blocks have.
type labels map[int]struct{}

func (have labels) has(label int) bool {
	_, ok := have[label]
	return ok
}

// Check: may it be one, as far as it goes without its ways: sizes, labels, numbers, kinds?
func (p Program) Check() api.Errno {
	if len(p.Blocks) < 1 || len(p.Blocks) > api.MaxBlocks {
		return api.ErrMany
	}
	if p.Count() > api.MaxInstrs {
		return api.ErrSize
	}
	have, err := p.labels()
	if err != api.OK {
		return err
	}
	for _, b := range p.Blocks {
		if err := b.check(have); err != api.OK {
			return err
		}
	}
	return api.OK
}

func (p Program) labels() (labels, api.Errno) {
	have := labels{}
	for _, b := range p.Blocks {
		if b.Label < 0 || b.Label >= api.MaxLabel {
			return nil, api.ErrRange
		}
		if have.has(b.Label) {
			return nil, api.ErrTwice
		}
		have[b.Label] = struct{}{}
	}
	return have, api.OK
}

func (b Block) check(have labels) api.Errno {
	for _, x := range b.Phis {
		if err := x.check(have); err != api.OK {
			return err
		}
	}
	for _, x := range b.Instrs {
		if err := x.check(); err != api.OK {
			return err
		}
	}
	return b.Last.check(have)
}

func (x Phi) check(have labels) api.Errno {
	if len(x.From) != len(x.Args) {
		return api.ErrForm
	}
	if !isReg(x.Dst) {
		return api.ErrRange
	}
	for i, label := range x.From {
		if !have.has(label) {
			return api.ErrNone
		}
		if i > 0 && label <= x.From[i-1] {
			return api.ErrTwice
		}
		if !isReg(x.Args[i]) {
			return api.ErrRange
		}
	}
	return api.OK
}

func (x Instr) check() api.Errno {
	if x.Kind >= Kinds || x.Kind == Do && x.Op >= word.Ops {
		return api.ErrKind
	}
	if x != x.Only() {
		return api.ErrForm
	}
	// What the kind doesn't have is 0 by now, which is in range.
	if !isReg(x.Dst) || !isReg(x.A) || !isReg(x.B) || x.Slot < 0 || x.Slot >= api.Slots {
		return api.ErrRange
	}
	return api.OK
}

func (l Last) check(have labels) api.Errno {
	if l.End >= Ends {
		return api.ErrKind
	}
	if l != l.Only() {
		return api.ErrForm
	}
	if !isReg(l.A) {
		return api.ErrRange
	}
	for _, label := range l.Labels() {
		if !have.has(label) {
			return api.ErrNone
		}
	}
	return api.OK
}

func isReg(r int) bool {
	return r >= 0 && r < api.MaxReg
}
