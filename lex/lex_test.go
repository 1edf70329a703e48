package lex

import (
	"slices"
	"strings"
	"testing"
	"unsafe"

	"refinery/api"
)

// told is one step of Tokens.
type told struct {
	token Token
	err   api.Errno
}

// tell: all steps of Tokens.
func tell(s string) []told {
	var l []told
	for t, err := range Tokens(s) {
		l = append(l, told{t, err})
	}
	return l
}

// holds: Tokens and Split of s answer these tokens and an End, or, if failed isn't below 0, these tokens and then that error there.
func holds(t *testing.T, s string, tokens []Token, failed int, err api.Errno) {
	t.Helper()
	var want []told
	for _, x := range tokens {
		want = append(want, told{x, api.OK})
	}
	if failed >= 0 {
		want = append(want, told{Token{At: failed}, err})
	} else {
		tokens = append(slices.Clone(tokens), Token{Kind: End, At: len(s)})
		want = append(want, told{tokens[len(tokens)-1], api.OK})
	}
	if got := tell(s); !slices.Equal(got, want) {
		t.Errorf("P4.1: Tokens(%.60q): %v, not %v", s, got, want)
	}
	all, at, e := Split(s)
	switch {
	case failed >= 0 && (len(all) != 0 || at != failed || e != err):
		t.Errorf("P4.1: Split(%.60q): %v, %d, %d, not %d at %d", s, all, at, e, err, failed)
	case failed < 0 && (!slices.Equal(all, tokens) || at != 0 || e != api.OK):
		t.Errorf("P4.1: Split(%.60q): %v, %d, %d, not %v", s, all, at, e, tokens)
	}
}

// fine: s has these tokens, and the End.
func fine(t *testing.T, s string, tokens ...Token) {
	t.Helper()
	holds(t, s, tokens, -1, api.OK)
}

// wrong: s has these tokens, and then what begins none, there.
func wrong(t *testing.T, s string, at int, tokens ...Token) {
	t.Helper()
	holds(t, s, tokens, at, api.ErrToken)
}

// P4.1: the kinds are numbered as the chapter lists them.
func TestKinds(t *testing.T) {
	for i, k := range []Kind{End, Word, Reg, Label, Slot, Number, Sign, Line, Kinds} {
		if int(k) != i {
			t.Errorf("P4.1: kind %d is %d", i, k)
		}
	}
}

// P4.1: the chapter's examples.
func TestExamples(t *testing.T) {
	fine(t, "%1 = 5", Token{Kind: Reg, N: 1}, Token{Kind: Sign, At: 3, Text: "="}, Token{Kind: Number, At: 5, N: 5})
	wrong(t, "%01", 0)
}

// sample: a token's text, and what it is read as.
type sample struct {
	text  string
	token Token
}

// samples: of each kind but End some.
func samples() []sample {
	return []sample{
		{"a", Token{Kind: Word, Text: "a"}},
		{"z", Token{Kind: Word, Text: "z"}},
		{"trap", Token{Kind: Word, Text: "trap"}},
		{"abcdefghijklmnopqrstuvwxyz", Token{Kind: Word, Text: "abcdefghijklmnopqrstuvwxyz"}},
		{"%0", Token{Kind: Reg}},
		{"%1", Token{Kind: Reg, N: 1}},
		{"%99999", Token{Kind: Reg, N: 99999}},
		{"%100000", Token{Kind: Reg, N: 100000}},
		{"%9223372036854775807", Token{Kind: Reg, N: 1<<63 - 1}},
		{"@0", Token{Kind: Label}},
		{"@20", Token{Kind: Label, N: 20}},
		{"@9223372036854775807", Token{Kind: Label, N: 1<<63 - 1}},
		{"$0", Token{Kind: Slot}},
		{"$16", Token{Kind: Slot, N: 16}},
		{"$9223372036854775807", Token{Kind: Slot, N: 1<<63 - 1}},
		{"0", Token{Kind: Number}},
		{"9", Token{Kind: Number, N: 9}},
		{"-1", Token{Kind: Number, N: -1}},
		{"-10", Token{Kind: Number, N: -10}},
		{"1234567890", Token{Kind: Number, N: 1234567890}},
		{"9223372036854775807", Token{Kind: Number, N: 1<<63 - 1}},
		{"-9223372036854775807", Token{Kind: Number, N: -1<<63 + 1}},
		{"-9223372036854775808", Token{Kind: Number, N: -1 << 63}},
		{"=", Token{Kind: Sign, Text: "="}},
		{",", Token{Kind: Sign, Text: ","}},
		{":", Token{Kind: Sign, Text: ":"}},
		{"\n", Token{Kind: Line}},
	}
}

// at: the same token, elsewhere.
func at(x Token, place int) Token {
	x.At = place
	return x
}

// joins: does the second go on where the first ends, as one token?
func joins(a, b sample) bool {
	digit := b.text[0] >= '0' && b.text[0] <= '9'
	switch a.token.Kind {
	case Word:
		return b.token.Kind == Word
	case Reg, Label, Slot, Number:
		return digit
	}
	return false
}

// P4.1: each kind alone, and with blanks, notes and lines around it.
func TestAlone(t *testing.T) {
	for _, x := range samples() {
		fine(t, x.text, x.token)
		fine(t, "  "+x.text+"  ", at(x.token, 2))
		if x.token.Kind == Line {
			continue
		}
		line := Token{Kind: Line, At: len(x.text)}
		fine(t, x.text+"\n", x.token, line)
		fine(t, "\n"+x.text, Token{Kind: Line}, at(x.token, 1))
		fine(t, x.text+"# "+x.text, x.token)
		fine(t, "#"+x.text+"\n"+x.text, Token{Kind: Line, At: 1 + len(x.text)}, at(x.token, 2+len(x.text)))
	}
}

// P4.1: each kind with each other behind it, with and without something between.
func TestPairs(t *testing.T) {
	for _, a := range samples() {
		for _, b := range samples() {
			if !joins(a, b) {
				fine(t, a.text+b.text, a.token, at(b.token, len(a.text)))
			}
			fine(t, a.text+" "+b.text, a.token, at(b.token, len(a.text)+1))
			fine(t, a.text+"   "+b.text, a.token, at(b.token, len(a.text)+3))
			line := Token{Kind: Line, At: len(a.text)}
			fine(t, a.text+"\n"+b.text, a.token, line, at(b.token, len(a.text)+1))
			line.At += 2
			fine(t, a.text+"#:\n"+b.text, a.token, line, at(b.token, len(a.text)+3))
			line.At += 2
			fine(t, a.text+" # \xff\n "+b.text, a.token, line, at(b.token, len(a.text)+6))
		}
	}
}

// P4.1: as many letters, as many digits, as there are, are one token.
func TestAsManyAsThereAre(t *testing.T) {
	fine(t, "abcd", Token{Kind: Word, Text: "abcd"})
	fine(t, "addadd", Token{Kind: Word, Text: "addadd"})
	fine(t, "12", Token{Kind: Number, N: 12})
	fine(t, "%12", Token{Kind: Reg, N: 12})
	fine(t, "%1-2", Token{Kind: Reg, N: 1}, Token{Kind: Number, At: 2, N: -2})
	fine(t, "1-2-3", Token{Kind: Number, N: 1}, Token{Kind: Number, At: 1, N: -2}, Token{Kind: Number, At: 3, N: -3})
	fine(t, "12ab", Token{Kind: Number, N: 12}, Token{Kind: Word, At: 2, Text: "ab"})
	fine(t, "ab12", Token{Kind: Word, Text: "ab"}, Token{Kind: Number, At: 2, N: 12})
	fine(t, "@3x4", Token{Kind: Label, N: 3}, Token{Kind: Word, At: 2, Text: "x"}, Token{Kind: Number, At: 3, N: 4})
	fine(t, "%0x1", Token{Kind: Reg}, Token{Kind: Word, At: 2, Text: "x"}, Token{Kind: Number, At: 3, N: 1})
	fine(t, "0a", Token{Kind: Number}, Token{Kind: Word, At: 1, Text: "a"})
	fine(t, "-5a", Token{Kind: Number, N: -5}, Token{Kind: Word, At: 2, Text: "a"})
	fine(t, "::", Token{Kind: Sign, Text: ":"}, Token{Kind: Sign, At: 1, Text: ":"})
	fine(t, "==", Token{Kind: Sign, Text: "="}, Token{Kind: Sign, At: 1, Text: "="})
	fine(t, "\n\n", Token{Kind: Line}, Token{Kind: Line, At: 1})
}

// P4.1: blanks, notes, empty lines and the empty text have no tokens but Lines and the End.
func TestNothing(t *testing.T) {
	fine(t, "")
	fine(t, " ")
	fine(t, "     ")
	fine(t, "#")
	fine(t, "##")
	fine(t, "# %01 A \t\x00\x80\xff\r é €")
	fine(t, "  #  ")
	fine(t, "\n", Token{Kind: Line})
	fine(t, "#\n", Token{Kind: Line, At: 1})
	fine(t, "\n#", Token{Kind: Line})
	fine(t, "# é\xe2\x82\n#\n ", Token{Kind: Line, At: 6}, Token{Kind: Line, At: 8})
	fine(t, " \n \n\n", Token{Kind: Line, At: 1}, Token{Kind: Line, At: 3}, Token{Kind: Line, At: 4})
}

// P4.1: numbers that aren't as they are printed, or beyond 64 bits, begin no token, with a sign ahead of them neither.
func TestWrongNumbers(t *testing.T) {
	for _, s := range []string{
		"00", "01", "07", "000", "0123", "-0", "-00", "-01", "-", "--", "--1", "- 1", "-a", "-%1", "-\n", "-#",
		"9223372036854775808", "-9223372036854775809", "10000000000000000000", "-10000000000000000000",
		"18446744073709551615", "18446744073709551616", "18446744073709551617", "99999999999999999999999999",
		"09223372036854775807", "-09223372036854775808", strings.Repeat("9", 5000),
	} {
		for _, ahead := range []string{"", "%", "@", "$"} {
			wrong(t, ahead+s, 0)
			wrong(t, "a "+ahead+s, 2, Token{Kind: Word, Text: "a"})
			wrong(t, ahead+s+" a", 0)
			wrong(t, "\n"+ahead+s+"\n", 1, Token{Kind: Line})
		}
	}
}

// P4.1: %, @ and $ without digits as a number is printed begin no token.
func TestWrongNumbered(t *testing.T) {
	for _, sign := range []string{"%", "@", "$"} {
		for _, s := range []string{
			"", " ", " 1", "a", "a1", "\n", "\n1", "#", "#1", "%", "@", "$", "%1", "@1", "$1", ":", "=", ",",
			"-", "-1", "-0", "-9223372036854775808", "+1", "00", "01", "\x80", "\x801", "é", "A", "\t1", "_1",
		} {
			wrong(t, sign+s, 0)
			wrong(t, "=,"+sign+s, 2, Token{Kind: Sign, Text: "="}, Token{Kind: Sign, At: 1, Text: ","})
		}
	}
}

// P4.1: each byte that begins no token is ErrToken where it is: at the beginning, in the middle, at the end.
func TestWrongBytes(t *testing.T) {
	a, b := Token{Kind: Word, Text: "a"}, Token{Kind: Number, At: 3, N: 5}
	for i := range 256 {
		c := string([]byte{byte(i)})
		if strings.Contains(" #\n=,:%@$-0123456789abcdefghijklmnopqrstuvwxyz", c) {
			continue
		}
		wrong(t, c, 0)
		wrong(t, c+"a", 0)
		wrong(t, "a"+c, 1, a)
		wrong(t, "a"+c+"b", 1, a)
		wrong(t, "a  5"+c+"5", 4, a, b)
		wrong(t, "a\n\n"+c+"\n", 3, a, Token{Kind: Line, At: 1}, Token{Kind: Line, At: 2})
		fine(t, "a  5#"+c, a, b)
	}
}

// P4.1: no letter, digit or blank of other writings is one of a to z, 0 to 9 or a blank.
func TestOtherLetters(t *testing.T) {
	for _, s := range []string{"é", "ß", "а", "٣", "５", "ａ", "\u00a0", "\u2003", "\u2028", "−1", "％1", "＝", "\ufffd", "\U0001d41a", "\ufeff"} {
		wrong(t, s, 0)
		wrong(t, "a"+s, 1, Token{Kind: Word, Text: "a"})
		wrong(t, "%1"+s, 2, Token{Kind: Reg, N: 1})
		wrong(t, "%"+s, 0)
		wrong(t, "-"+s, 0)
	}
	wrong(t, "ab\xc3", 2, Token{Kind: Word, Text: "ab"})
	wrong(t, "1\xc3\xa9", 1, Token{Kind: Number, N: 1})
}

// P4.1: what is wrong is the last: of two faults the first is told, and nothing behind it.
func TestLastIsTheError(t *testing.T) {
	wrong(t, "A B", 0)
	wrong(t, "%1 A %2 B", 3, Token{Kind: Reg, N: 1})
	wrong(t, "a\n07\nb", 2, Token{Kind: Word, Text: "a"}, Token{Kind: Line, At: 1})
}

// P4.1: a text of 100000 bytes has its tokens, one of more begins with ErrSize, at 100000, whatever is in it.
func TestSize(t *testing.T) {
	for _, n := range []int{99999, 100000} {
		fine(t, strings.Repeat(" ", n))
		fine(t, strings.Repeat("#", n))
		fine(t, strings.Repeat("a", n), Token{Kind: Word, Text: strings.Repeat("a", n)})
		wrong(t, strings.Repeat("1", n), 0)
		wrong(t, strings.Repeat(" ", n-1)+"A", n-1)
		var lines []Token
		for i := range n {
			lines = append(lines, Token{Kind: Line, At: i})
		}
		fine(t, strings.Repeat("\n", n), lines...)
	}
	for _, n := range []int{100001, 100002, 300000} {
		for _, s := range []string{" ", "#", "a", "A", "1", "\n", "\xff"} {
			holds(t, strings.Repeat(s, n), nil, 100000, api.ErrSize)
		}
		holds(t, "A"+strings.Repeat(" ", n-1), nil, 100000, api.ErrSize)
	}
}

// P4.1, R8: one may stop early, and go through again.
func TestStopping(t *testing.T) {
	for _, s := range []string{"", "a", "a %1 = 5\n", "a A b", "07", "\n\n# a", strings.Repeat("a", 100001)} {
		whole := tell(s)
		seq := Tokens(s)
		for n := 1; n <= len(whole)+1; n++ {
			var l []told
			for x, err := range seq {
				l = append(l, told{x, err})
				if len(l) == n {
					break
				}
			}
			if !slices.Equal(l, whole[:min(n, len(whole))]) {
				t.Errorf("P4.1: %.20q, stopped at %d: %v", s, n, l)
			}
		}
	}
}

// P4.1: two may go through one iterator, one within the other.
func TestNested(t *testing.T) {
	seq := Tokens("a b c")
	n := 0
	for range seq {
		for range seq {
			n++
		}
	}
	if n != 16 {
		t.Errorf("P4.1: %d pairs", n)
	}
}

// P1, R7: a nil function is told nothing.
func TestNilYield(t *testing.T) {
	for _, s := range []string{"", "a", "A", strings.Repeat("a", 100001)} {
		Tokens(s)(nil)
	}
}

// R6: an answer's texts are new memory.
func TestNewMemory(t *testing.T) {
	s := strings.Repeat("ab, = : ", 3)
	from := uintptr(unsafe.Pointer(unsafe.StringData(s)))
	all, _, _ := Split(s)
	if len(all) != 13 {
		t.Fatalf("%v", all)
	}
	for _, x := range all[:12] {
		p := uintptr(unsafe.Pointer(unsafe.StringData(x.Text)))
		if p >= from && p < from+uintptr(len(s)) {
			t.Errorf("R6: the text of %v is a piece of what was handed in", x)
		}
	}
	again, _, _ := Split(s)
	again[0] = Token{}
	if third, _, _ := Split(s); !slices.Equal(third, all) {
		t.Error("R8: an answer hangs on an earlier one")
	}
}
