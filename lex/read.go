package lex

import (
	"strconv"
	"strings"
)

// gap is what parts tokens, and is none.
const gap = Kinds

// begins: what a sign begins; a sign that begins nothing isn't in it, and so has the kind End, which no sign begins.
func begins() map[rune]Kind {
	m := map[rune]Kind{
		' ':  gap,
		'#':  gap,
		'\n': Line,
		'=':  Sign,
		',':  Sign,
		':':  Sign,
		'%':  Reg,
		'@':  Label,
		'$':  Slot,
		'-':  Number,
	}
	for r := 'a'; r <= 'z'; r++ {
		m[r] = Word
	}
	for r := '0'; r <= '9'; r++ {
		m[r] = Number
	}
	return m
}

// read: the token of that kind at s's beginning (s isn't empty), and how many bytes it has; 0 bytes, if there is none.
func read(k Kind, s string) (Token, int) {
	switch k {
	case gap:
		return Token{Kind: gap}, gapSize(s)
	case Line:
		return Token{Kind: Line}, 1
	case Sign:
		return Token{Kind: Sign, Text: strings.Clone(s[:1])}, 1
	case Word:
		size := run(s, 'a', 'z')
		// A piece of s would hold all of s for as long as the token is held.
		return Token{Kind: Word, Text: strings.Clone(s[:size])}, size
	case Number:
		n, size := number(s)
		return Token{Kind: Number, N: n}, size
	case Reg, Label, Slot:
		n, size := numbered(s[1:])
		return Token{Kind: k, N: n}, size
	}
	return Token{}, 0
}

// gapSize: a blank has one byte; a note goes on to the line's end.
func gapSize(s string) int {
	if s[0] != '#' {
		return 1
	}
	if end := strings.IndexByte(s, '\n'); end >= 0 {
		return end
	}
	return len(s)
}

// run: how many signs from first to last (each of one byte) stand at s's beginning.
func run(s string, first, last rune) int {
	for i, r := range s {
		if r < first || r > last {
			return i
		}
	}
	return len(s)
}

// number: the one at s's beginning, and how many bytes it has; 0 bytes, if it isn't one as it is printed.
func number(s string) (int64, int) {
	ahead := 0
	if strings.HasPrefix(s, "-") {
		ahead = 1
	}
	text := s[:ahead+run(s[ahead:], '0', '9')]
	n, err := strconv.ParseInt(text, 10, 64)
	if err != nil || strconv.FormatInt(n, 10) != text {
		return 0, 0
	}
	return n, len(text)
}

// numbered: the number, not below 0, behind a sign that asks for one, and how many bytes they have with the sign; 0 bytes, if there is none.
func numbered(s string) (int64, int) {
	n, size := number(s)
	if size == 0 || n < 0 {
		return 0, 0
	}
	return n, size + 1
}
