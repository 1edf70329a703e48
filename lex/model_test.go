package lex

import (
	"regexp"
	"slices"
	"strconv"
	"strings"
	"testing"

	"refinery/api"
)

// The chapter's sentence, as patterns, tried one by one at a place.
var (
	gaps    = regexp.MustCompile(`^(?: |#[^\n]*)+`)
	words   = regexp.MustCompile(`^[a-z]+`)
	numbers = regexp.MustCompile(`^-?[0-9]+`)
	marked  = regexp.MustCompile(`^[%@$][0-9]+`)
	printed = regexp.MustCompile(`^(?:0|-?[1-9][0-9]*)$`)
)

// model: what Split is to answer, by the patterns.
func model(s string) ([]Token, int, api.Errno) {
	var all []Token
	place := 0
	for {
		place += len(gaps.FindString(s[place:]))
		if place == len(s) {
			return append(all, Token{Kind: End, At: place}), 0, api.OK
		}
		x, size := modelToken(s[place:])
		if size == 0 {
			return nil, place, api.ErrToken
		}
		x.At = place
		all = append(all, x)
		place += size
	}
}

// modelToken: the token at s's beginning, and its size; 0, if there is none.
func modelToken(s string) (Token, int) {
	if s[0] == '\n' {
		return Token{Kind: Line}, 1
	}
	if strings.IndexByte("=,:", s[0]) >= 0 {
		return Token{Kind: Sign, Text: s[:1]}, 1
	}
	if w := words.FindString(s); w != "" {
		return Token{Kind: Word, Text: w}, len(w)
	}
	kind, text, ahead := Number, numbers.FindString(s), 0
	if m := marked.FindString(s); m != "" {
		kind, text, ahead = []Kind{Reg, Label, Slot}[strings.IndexByte("%@$", m[0])], m[1:], 1
	}
	n, err := strconv.ParseInt(text, 10, 64)
	if err != nil || !printed.MatchString(text) {
		return Token{}, 0
	}
	return Token{Kind: kind, N: n}, ahead + len(text)
}

// against: Split and Tokens hold against the model.
func against(t *testing.T, s string) {
	t.Helper()
	want, wantAt, wantErr := model(s)
	all, at, err := Split(s)
	if !slices.Equal(all, want) || at != wantAt || err != wantErr {
		t.Fatalf("P4.1: Split(%q): %v, %d, %d, not %v, %d, %d", s, all, at, err, want, wantAt, wantErr)
	}
	steps := tell(s)
	last := steps[len(steps)-1]
	if last.err != wantErr || wantErr != api.OK && last.token != (Token{At: wantAt}) {
		t.Fatalf("P4.1: Tokens(%q) ends with %v", s, last)
	}
	for i, x := range steps {
		if i < len(steps)-1 && x.err != api.OK || wantErr == api.OK && x.token != want[i] {
			t.Fatalf("P4.1: Tokens(%q): step %d is %v", s, i, x)
		}
	}
}

// P4.1, P5: all short texts of signs of each sort.
func TestShortTexts(t *testing.T) {
	const signs = " #\n=,%@$az019-A\t\x80\xc3"
	text := make([]byte, 0, 4)
	var grow func()
	grow = func() {
		against(t, string(text))
		if len(text) == cap(text) {
			return
		}
		for i := range len(signs) {
			text = append(text, signs[i])
			grow()
			text = text[:len(text)-1]
		}
	}
	grow()
}

// P4.1: numbers around each power of ten and of two, with each sign ahead.
func TestManyNumbers(t *testing.T) {
	var texts []string
	for i := range 64 {
		for d := range uint64(3) {
			texts = append(texts, strconv.FormatUint(1<<i+d-1, 10))
		}
	}
	for i := range 25 {
		texts = append(texts, "1"+strings.Repeat("0", i), strings.Repeat("9", i+1))
	}
	for _, s := range texts {
		for _, ahead := range []string{"", "-", "%", "@", "$", "%-", "0", "-0", "%0"} {
			against(t, ahead+s)
			against(t, ahead+s+"b")
		}
	}
}

// P5, P1: any bytes have their tokens, or an error, and where.
func FuzzSplit(f *testing.F) {
	for _, s := range []string{"", "@7: # a\n%1=add %2,-5", "a 07", "$15 \xff", "-9223372036854775808"} {
		f.Add(s)
	}
	f.Fuzz(func(t *testing.T, s string) {
		if len(s) <= api.MaxText {
			against(t, s)
		}
	})
}
