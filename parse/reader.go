package parse

import (
	"refinery/api"
	"refinery/lex"
	"refinery/word"
)

// reader goes through a text's tokens, the last of which is an End that is never taken. It keeps its first fault.
type reader struct {
	tokens []lex.Token
	next   int
	at     int
	err    api.Errno
}

func (r *reader) now() lex.Token {
	return r.tokens[r.next]
}

// fail: the token here isn't as it is to be. Whoever reads on sees nothing but the End, so that every loop ends there without asking for faults.
func (r *reader) fail() {
	if r.err != api.OK {
		return
	}
	t := r.now()
	r.at, r.err = t.At, api.ErrForm
	// The document asks this of the token alone, not of what was to stand in its place.
	if tooGreat(t) {
		r.err = api.ErrRange
	}
	r.next = len(r.tokens) - 1
}

func tooGreat(t lex.Token) bool {
	switch t.Kind {
	case lex.Reg:
		return t.N >= api.MaxReg
	case lex.Label:
		return t.N >= api.MaxLabel
	case lex.Slot:
		return t.N >= api.Slots
	}
	return false
}

// take: the number of a token that is to be of that kind (never End).
func (r *reader) take(k lex.Kind) int64 {
	t := r.now()
	if t.Kind != k || tooGreat(t) {
		r.fail()
		return 0
	}
	r.next++
	return t.N
}

func (r *reader) reg() int {
	return int(r.take(lex.Reg))
}

func (r *reader) label() int {
	return int(r.take(lex.Label))
}

func (r *reader) slot() int {
	return int(r.take(lex.Slot))
}

func (r *reader) twoRegs() (int, int) {
	a := r.reg()
	r.sign(",")
	return a, r.reg()
}

// has: is it that word or sign? If so, it is taken. (Words and signs alone have a text, and no word is a sign's.)
func (r *reader) has(text string) bool {
	if r.now().Text != text {
		return false
	}
	r.next++
	return true
}

func (r *reader) sign(text string) {
	if !r.has(text) {
		r.fail()
	}
}

func (r *reader) op() word.Op {
	o, ok := word.Find(r.now().Text)
	if !ok {
		r.fail()
		return 0
	}
	r.next++
	return o
}

// line: a line's end, and what may stand where the next one begins.
func (r *reader) line() {
	r.take(lex.Line)
	r.emptyLines()
}

func (r *reader) emptyLines() {
	for r.now().Kind == lex.Line {
		r.next++
	}
}
