package parse

import (
	"slices"
	"strings"
	"testing"

	"refinery/api"
	"refinery/ir"
	"refinery/lex"
	"refinery/word"
)

// The chapter's lines, as lists of tokens: R a register, L a label, S a slot, N a number, O an op's word, / a Line, . the text's end.
const (
	heads  = "L : /"
	sets   = "R = N /|R = R /|R = O R , R /|R = in /|R = load S /|R = get R /"
	others = "out R /|store S , R /|put R , R /"
	stops  = "jump L /|br R , L , L /|ret R /|trap /|jump L .|br R , L , L .|ret R .|trap ."
)

func forms(lines ...string) [][]string {
	var l [][]string
	for _, s := range lines {
		for f := range strings.SplitSeq(s, "|") {
			l = append(l, strings.Fields(f))
		}
	}
	return l
}

// class: what a token is in the forms, in capitals, which no word has; one that is too great is in none.
func class(x lex.Token) string {
	switch x.Kind {
	case lex.End:
		return "."
	case lex.Line:
		return "/"
	case lex.Number:
		return "N"
	case lex.Reg:
		return small(x.N, 99999, "R")
	case lex.Label:
		return small(x.N, 99999, "L")
	case lex.Slot:
		return small(x.N, 15, "S")
	}
	if _, ok := word.Find(x.Text); ok {
		return "O"
	}
	return x.Text
}

func small(n, most int64, name string) string {
	if n > most {
		return "GREAT"
	}
	return name
}

// fit: how many tokens at the beginning are those of one form, at most; and whether they are a whole one.
func fit(classes []string, forms [][]string) (int, bool) {
	most := 0
	for _, f := range forms {
		n := 0
		for n < len(f) && n < len(classes) && f[n] == classes[n] {
			n++
		}
		if n == len(f) {
			return n, true
		}
		most = max(most, n)
	}
	return most, false
}

// model: the first token that isn't as it is to be, line by line; -1, if there is none.
func model(tokens []lex.Token) int {
	var classes []string
	for _, x := range tokens {
		classes = append(classes, class(x))
	}
	outside, inside := forms(heads, "."), forms(sets, others, stops)
	within, at := false, 0
	for at < len(classes) {
		if classes[at] == "/" {
			at++
			continue
		}
		now := outside
		if within {
			now = inside
		}
		n, whole := fit(classes[at:], now)
		if !whole {
			return at + n
		}
		first, last := classes[at], classes[at+n-1]
		within = first != "." && !slices.Contains([]string{"jump", "br", "ret", "trap"}, first)
		at += n
		if last == "." {
			return -1
		}
	}
	return -1
}

// agrees: Parse and the model are of one mind on s.
func agrees(t *testing.T, s string) {
	t.Helper()
	p, at, err := Parse(s)
	tokens, place, e := lex.Split(s)
	if e == api.OK {
		if i := model(tokens); i >= 0 {
			place, e = tokens[i].At, api.ErrForm
			if class(tokens[i]) == "GREAT" {
				e = api.ErrRange
			}
		}
	}
	switch {
	case e != api.OK:
		if at != place || err != e || p.Blocks != nil {
			t.Errorf("P5.1: Parse(%q): %v, error %d at %d, not %d at %d", s, p, err, at, e, place)
		}
	case err != api.OK:
		if at != len(s) || p.Blocks != nil || !slices.Contains([]api.Errno{api.ErrMany, api.ErrSize, api.ErrTwice, api.ErrNone}, err) {
			t.Errorf("P5.1: Parse(%q): %v, error %d at %d, not one of Check", s, p, err, at)
		}
	case at != 0 || p.Check() != api.OK || !p.Plain():
		t.Errorf("P5: Parse(%q): %v, at %d: not a program that may be", s, p, at)
	}
}

// pool: a text of each token that the forms know, and of some that they don't.
func pool() []string {
	return strings.Split("%1|%100000|@0|@100000|$3|$16|5|-5|=|,|:|\n|add|in|load|get|out|store|put|jump|br|ret|trap|foo|op|A", "|")
}

// whole: a program's tokens with all forms in it.
func whole() []string {
	var s []string
	s = append(s, "@0", ":", "\n")
	for _, x := range instrs()[:11] {
		s = append(s, parts(x.text)...)
	}
	s = append(s, parts("br %1, @4, @5")...)
	s = append(s, "@4", ":", "\n")
	s = append(s, parts("jump @5")...)
	s = append(s, "@5", ":", "\n", "out", "%1", "\n")
	s = append(s, parts("ret %1")...)
	s = append(s, "@6", ":", "\n")
	return append(s, parts("trap")...)
}

func parts(line string) []string {
	return append(strings.Fields(strings.ReplaceAll(line, ",", " ,")), "\n")
}

// P5.1: at each place of a program one token left out, another in its place, one more ahead of it, two turned, all behind left out.
func TestEachPlace(t *testing.T) {
	w := whole()
	text := func(pieces ...[]string) string { return strings.Join(slices.Concat(pieces...), " ") }
	if _, _, err := Parse(text(w)); err != api.OK {
		t.Fatalf("the program itself: %d", err)
	}
	for i := range w {
		agrees(t, text(w[:i]))
		agrees(t, text(w[:i], w[i+1:]))
		agrees(t, text(w[:i], w[i:i+1], w[i:]))
		if i > 0 {
			agrees(t, text(w[:i-1], w[i:i+1], w[i-1:i], w[i+1:]))
		}
		for _, x := range pool() {
			agrees(t, text(w[:i], []string{x}, w[i+1:]))
			agrees(t, text(w[:i], []string{x}, w[i:]))
			agrees(t, text(w[:i], []string{x}))
			for _, y := range pool() {
				agrees(t, text(w[:i], []string{x, y}, w[i+1:]))
			}
		}
	}
}

// P5.1: all texts of few tokens, alone, in a block, behind a register and behind an end.
func TestShortTexts(t *testing.T) {
	for _, ahead := range []string{"", "@0 : \n", "@0 : \n %1 = ", "@0 : \n trap ", "@0 : \n br %1 , "} {
		short(t, ahead, 3)
	}
}

func short(t *testing.T, s string, more int) {
	agrees(t, s)
	if more == 0 {
		return
	}
	for _, x := range pool() {
		short(t, s+x+" ", more-1)
	}
}

// P1: no bytes make it panic, or tell a place beyond the text.
func TestAnyBytes(t *testing.T) {
	s := strings.Join(whole(), " ")
	for i := range len(s) {
		for c := range 256 {
			agrees(t, s[:i]+string([]byte{byte(c)})+s[i+1:])
		}
	}
}

// R6, R8: what is answered is new each time, and its lists share nothing.
func TestNewMemory(t *testing.T) {
	s := "@0:\nout %1\njump @1\n@1:\nout %1\nout %2\nout %3\njump @2\n@2:\nout %4\ntrap\n"
	p, _, _ := Parse(s)
	want := p.Clone()
	q, _, _ := Parse(s)
	for i := range q.Blocks {
		q.Blocks[i].Instrs = append(q.Blocks[i].Instrs, ir.Instr{Dst: 9})
		q.Blocks[i].Instrs[0].A = 9
	}
	if !ir.Same(p, want) {
		t.Error("R6: two answers share memory")
	}
	for i := range q.Blocks {
		if n := len(q.Blocks[i].Instrs); n != len(want.Blocks[i].Instrs)+1 || q.Blocks[i].Instrs[n-1].Dst != 9 {
			t.Error("R6: two lists of an answer share memory")
		}
	}
	reads(t, s, want)
}
