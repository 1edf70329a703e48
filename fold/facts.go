package fold

import (
	"refinery/api"
	"refinery/ir"
	"refinery/word"
)

// State is what is known of a register.
type State uint8

// The states: nothing yet; one number; it may be any.
const (
	Unknown State = iota
	Known
	Any
)

// Fact is a state, and a number.
type Fact struct {
	State State
	N     int64
}

// Meet: what holds of both.
func Meet(a, b Fact) Fact {
	switch {
	case a.State == Unknown:
		return b
	case b.State == Unknown || a == b:
		return a
	}
	return Fact{State: Any}
}

// done: what is known of what an op makes of two.
func done(o word.Op, a, b Fact) Fact {
	if a.State == Unknown || b.State == Unknown {
		return Fact{}
	}
	if a.State == Known && b.State == Known {
		if n, ok := o.Do(a.N, b.N); ok {
			return Fact{State: Known, N: n}
		}
	}
	return Fact{State: Any}
}

// Facts: of a program whose registers are each set at one place: what is known of each register, and which blocks are reached by what is known.
func Facts(p ir.Program) (map[int]Fact, []bool) {
	if p.Check() != api.OK {
		return nil, nil
	}
	k := reckon(p, Fact{})
	return k.facts, k.there
}
