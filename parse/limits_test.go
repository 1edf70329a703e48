package parse

import (
	"regexp"
	"slices"
	"strconv"
	"strings"
	"testing"

	"refinery/api"
	"refinery/ir"
)

// places: texts, each with a ? where a number stands, by the sign ahead of it; all else about them is fine.
func places() map[string][]string {
	m := map[string][]string{
		"@": {"?:\ntrap", "@0:\ntrap\n?:\ntrap", "@0:\njump ?", "@0:\nbr %1, ?, @0", "@0:\nbr %1, @0, ?", "@0:\nout %1\njump ?\n"},
		"$": {"@0:\nstore ?, %1\ntrap", "@0:\n%1 = load ?\ntrap", "@0:\ntrap\n@1:\nout %1\nstore ?, %1\ntrap"},
		"%": {"@0:\nret ?", "@0:\nbr ?, @0, @0"},
	}
	for _, s := range []string{
		"? = 5", "? = %1", "%1 = ?", "? = in", "? = load $1", "? = get %1", "%1 = get ?", "out ?", "store $1, ?", "put ?, %1", "put %1, ?",
	} {
		m["%"] = append(m["%"], "@0:\n"+s+"\ntrap", "@0:\ntrap\n@1:\nout %1\n"+s+"\nout %1\ntrap\n")
	}
	for _, o := range strings.Fields("add sub mul div rem and or xor shl shr eq lt") {
		m["%"] = append(m["%"], "@0:\n? = "+o+" %1, %2\ntrap", "@0:\n%1 = "+o+" ?, %2\ntrap", "@0:\n%1 = "+o+" %1, ?\ntrap")
	}
	return m
}

// P5.1: registers, labels, slots at their limits are read, one beyond is ErrRange, where it is, at each place where one may stand.
func TestLimits(t *testing.T) {
	for sign, texts := range places() {
		limit := 100000
		if sign == "$" {
			limit = 16
		}
		for _, s := range texts {
			at := strings.Index(s, "?")
			for _, n := range []int{limit, limit + 1, 10 * limit, 1 << 32, 1 << 32 * 3, 1<<63 - 1} {
				fails(t, strings.Replace(s, "?", sign+strconv.Itoa(n), 1), at, api.ErrRange)
			}
			for _, n := range []int{1, limit - 2, limit - 1} {
				readsNumber(t, strings.Replace(s, "?", sign+strconv.Itoa(n), 1), sign, n)
			}
		}
	}
}

// readsNumber: what is read of s has the numbers that stand behind that sign in it; a label that no block has is Check's to tell.
func readsNumber(t *testing.T, s, sign string, n int) {
	t.Helper()
	if label := "@" + strconv.Itoa(n) + ":"; sign == "@" && !strings.Contains(s, label) {
		fails(t, s, len(s), api.ErrNone)
		s += "\n" + label + "\ntrap"
	}
	p, at, err := Parse(s)
	if got, want := numbersRead(p, sign), numbersOf(s, sign); err != api.OK || at != 0 || !slices.Equal(got, want) {
		t.Errorf("P5.1: Parse(%q): error %d at %d, %s %v, not %v", s, err, at, sign, got, want)
	}
}

// numbersOf: those behind that sign in a text.
func numbersOf(s, sign string) []int {
	var l []int
	for _, x := range regexp.MustCompile("["+sign+"][0-9]+").FindAllString(s, -1) {
		n, _ := strconv.Atoi(x[1:])
		l = append(l, n)
	}
	return l
}

// numbersRead: a program's registers, labels or slots, in the order in which a text has them.
func numbersRead(p ir.Program, sign string) []int {
	var regs, labels, slots []int
	for _, b := range p.Blocks {
		labels = append(labels, b.Label)
		for _, x := range b.Instrs {
			if r, ok := x.Sets(); ok {
				regs = append(regs, r)
			}
			regs = append(regs, x.Reads()...)
			if x.Kind == ir.Load || x.Kind == ir.Store {
				slots = append(slots, x.Slot)
			}
		}
		if r, ok := b.Last.Reads(); ok {
			regs = append(regs, r)
		}
		switch b.Last.End {
		case ir.Jump:
			labels = append(labels, b.Last.Yes)
		case ir.Branch:
			labels = append(labels, b.Last.Yes, b.Last.No)
		}
	}
	return map[string][]int{"%": regs, "@": labels, "$": slots}[sign]
}

// P5.1, R2: a register, label or slot that is too great is ErrRange wherever it is the first that isn't as it is to be.
func TestTooGreatOutOfPlace(t *testing.T) {
	for _, x := range []string{"%100000", "@100000", "$16"} {
		for _, s := range []string{"?", "@0?", "@0:?", "@0:\n?", "@0:\n%1 ?", "@0:\n%1 = ?", "@0:\nout ?", "@0:\nout %1 ?", "@0:\njump ?", "@0:\ntrap ?", "@0:\ntrap\n?", "@0:\nstore $1 ?"} {
			fails(t, strings.Replace(s, "?", x, 1), strings.Index(s, "?"), api.ErrRange)
		}
	}
	for _, s := range []string{"%99999", "$15"} {
		fails(t, s+":\ntrap", 0, api.ErrForm)
	}
	fails(t, "@0:\nout @99999\ntrap", 8, api.ErrForm)
	fails(t, "@0:\n%1 = 100000 $16\ntrap", 16, api.ErrRange)
}

// P5.1, R2: of two faults: one of the tokens is told first, then the one ahead, then Check's.
func TestTwoFaults(t *testing.T) {
	fails(t, "@0:\n%1 = %100000 %2\ntrap", 9, api.ErrRange)
	fails(t, "@0:\n%100000 = $16\ntrap", 4, api.ErrRange)
	fails(t, "@0:\n%1 %100000\ntrap", 7, api.ErrRange)
	fails(t, "@0:\n%1 in %100000\ntrap", 7, api.ErrForm)
	fails(t, "@0:\nout $3, %100000\ntrap", 8, api.ErrForm)
	fails(t, "@0:\nstore $16 %1\ntrap", 10, api.ErrRange)
	fails(t, "@0:\nstore, $16, %1\ntrap", 9, api.ErrForm)
	fails(t, "@0:\nbr %1, @100000, %2", 11, api.ErrRange)
	fails(t, "@0:\nbr %1, %2, @100000", 11, api.ErrForm)
	fails(t, "@100000:\ntrap\n@0:\nfoo", 0, api.ErrRange)
	fails(t, "foo\n@100000:\ntrap", 0, api.ErrForm)

	fails(t, "foo\n@100000:\n%01", 13, api.ErrToken)
	fails(t, "@0:\nout 5\ntrap A", 15, api.ErrToken)
	fails(t, "@100000:\ntrap\t", 13, api.ErrToken)
	fails(t, "@0:\ntrap\n@0:\ntrap A", 18, api.ErrToken)
	fails(t, "A B", 0, api.ErrToken)

	fails(t, "@0:\ntrap\n@0:\ntrap\nfoo", 18, api.ErrForm)
	fails(t, "@0:\njump @1\n@0:\nout %100000\ntrap", 20, api.ErrRange)
	fails(t, "@0:\njump @1\nfoo", 12, api.ErrForm)
	many := strings.Repeat("@0:\njump @1\n", 401)
	fails(t, many+"foo", len(many), api.ErrForm)
	fails(t, "@0:\n"+strings.Repeat("out %1\n", 5000), 4+7*5000, api.ErrForm)
}

// P5.1: Split's error, and where.
func TestTokensFaults(t *testing.T) {
	for _, x := range []string{"A", "%01", "%", "@a", "$-1", "-", "-0", "07", "\t", "\r", "+", "\x00", "\xff", "é", "9223372036854775808", "%9223372036854775808", ";"} {
		for _, s := range []string{"?", "@0:\n?\ntrap", "@0:\n%1 = ?\ntrap", "@0:\ntrap ?", "@0:\ntrap\n ?\n", "?\n@0:\ntrap", "foo ?", "@100000 ?"} {
			fails(t, strings.Replace(s, "?", x, 1), strings.Index(s, "?"), api.ErrToken)
		}
		reads(t, "@0:\ntrap #"+x, one(ir.Last{End: ir.Trap}))
	}
}

// P5.1: a text of 100000 bytes is read, one of more is ErrSize, at 100000, whatever is in it.
func TestLongTexts(t *testing.T) {
	fill := func(s string, n int, with string) string { return s + strings.Repeat(with, n-len(s)) }
	trap := one(ir.Last{End: ir.Trap})
	for _, n := range []int{99999, 100000} {
		for _, with := range []string{" ", "#", "\n"} {
			reads(t, fill("@0:\ntrap", n, with), trap)
			fails(t, fill("", n, with), n, api.ErrMany)
			fails(t, fill("@0:\njump @1", n, with), n, api.ErrNone)
		}
		fails(t, fill("@0:\n", n, ":"), 4, api.ErrForm)
		fails(t, fill("@0:\n", n, "a"), 4, api.ErrForm)
		fails(t, fill("@0:\n", n, "A"), 4, api.ErrToken)
	}
	for _, n := range []int{100001, 100002, 250000} {
		for _, with := range []string{" ", "#", "\n", ":", "a", "A", "\xff"} {
			fails(t, fill("@0:\ntrap", n, with), 100000, api.ErrSize)
			fails(t, fill("", n, with), 100000, api.ErrSize)
			fails(t, fill("foo A", n, with), 100000, api.ErrSize)
		}
	}
}

// P5.1: a text whose program may not be: Check's error, at the text's length.
func TestMayNotBe(t *testing.T) {
	for s, err := range map[string]api.Errno{
		"@0:\ntrap\n@0:\ntrap":                                 api.ErrTwice,
		"@7:\njump @8\n@8:\ntrap\n@7:\ntrap":                   api.ErrTwice,
		"@0:\njump @1":                                         api.ErrNone,
		"@1:\njump @0":                                         api.ErrNone,
		"@0:\nbr %1, @0, @1":                                   api.ErrNone,
		"@0:\nbr %1, @1, @0":                                   api.ErrNone,
		"@0:\nbr %1, @1, @1":                                   api.ErrNone,
		"@0:\ntrap\n@1:\njump @99999":                          api.ErrNone,
		"@0:\njump @1\n@2:\ntrap\n@2:\ntrap":                   api.ErrTwice,
		strings.Repeat("@0:\njump @1\n", 401):                  api.ErrMany,
		"@0:\n" + strings.Repeat("%1 = 5\n", 4000) + "trap":    api.ErrSize,
		"@0:\n" + strings.Repeat("%1 = 5\n", 4000) + "jump @1": api.ErrSize,
	} {
		for _, behind := range []string{"", "\n", "  # end", "\n\n#\n  "} {
			fails(t, s+behind, len(s+behind), err)
		}
	}
}
