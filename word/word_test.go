package word

import (
	"math"
	"math/big"
	"strings"
	"testing"
)

const (
	least    = math.MinInt64
	greatest = math.MaxInt64
)

var names = []string{"add", "sub", "mul", "div", "rem", "and", "or", "xor", "shl", "shr", "eq", "lt"}

// edges are numbers around each bound that an op looks at: 0, the sign, 64 places, 32 bits, 64 bits.
var edges = []int64{
	least, least + 1, least + 2, least / 2, -1<<32 - 1, -1 << 32, -1 << 31, -129, -128, -127, -66, -65, -64, -63, -62, -8, -7, -3, -2, -1,
	0, 1, 2, 3, 7, 8, 31, 32, 33, 62, 63, 64, 65, 66, 127, 128, 129, 1<<31 - 1, 1 << 31, 1<<32 + 1, greatest / 2, greatest/2 + 1, greatest - 1, greatest,
	0x5555555555555555, -0x5555555555555556, 3037000500, -3037000500,
}

// Written with the ops' names, not by counting, so that a changed order shows.
func TestOrderOfOps(t *testing.T) {
	for i, o := range []Op{Add, Sub, Mul, Div, Rem, And, Or, Xor, Shl, Shr, Eq, Less, Ops} {
		if int(o) != i {
			t.Errorf("P1.1: op %d has the number %d", i, o)
		}
	}
}

func TestName(t *testing.T) {
	if int(Ops) != len(names) {
		t.Fatalf("P1.1: %d ops", Ops)
	}
	for i, want := range names {
		if got := Op(i).Name(); got != want {
			t.Errorf("P1.1: Name of op %d: %q, not %q", i, got, want)
		}
	}
}

func TestFind(t *testing.T) {
	for i, s := range names {
		if o, ok := Find(s); o != Op(i) || !ok {
			t.Errorf("P1.1: Find(%q): %d, %t", s, o, ok)
		}
	}
}

func TestNameAndFindBothWays(t *testing.T) {
	for o := Op(0); o < Ops; o++ {
		if back, ok := Find(o.Name()); back != o || !ok {
			t.Errorf("P1.1: Find(Name) of %d: %d, %t", o, back, ok)
		}
	}
}

func TestFindNoWord(t *testing.T) {
	wrong := []string{"", " ", "a", "ad", "addd", "Add", "ADD", " add", "add ", "add\n", "add\x00", "less", "Less", "ops", "eq,", "lte", "l", "copy", "in", "out", "load", "store", "get", "put", "jump", "br", "ret", "trap", "phi", "0", "\xff", "ädd", strings.Repeat("add", 1000)}
	for _, s := range wrong {
		if o, ok := Find(s); o != 0 || ok {
			t.Errorf("P1.1: Find(%q): %d, %t", s, o, ok)
		}
	}
	for _, s := range names {
		for _, w := range []string{s[:len(s)-1], s + "x", s + s, strings.ToUpper(s)} {
			if o, ok := Find(w); o != 0 || ok {
				t.Errorf("P1.1: Find(%q): %d, %t", w, o, ok)
			}
		}
	}
}

func TestTrapsAndTurns(t *testing.T) {
	traps := map[Op]bool{Div: true, Rem: true}
	turns := map[Op]bool{Add: true, Mul: true, And: true, Or: true, Xor: true, Eq: true}
	for i := range 256 {
		o := Op(i)
		if o.Traps() != traps[o] {
			t.Errorf("P1.1: Traps of %d: %t", i, o.Traps())
		}
		if o.Turns() != turns[o] {
			t.Errorf("P1.1: Turns of %d: %t", i, o.Turns())
		}
	}
}

func TestDo(t *testing.T) {
	for _, x := range []struct {
		o          Op
		a, b, want int64
	}{
		{Add, 2, 3, 5},
		{Add, 2, -3, -1},
		{Add, greatest, 1, least},
		{Add, greatest, greatest, -2},
		{Add, least, -1, greatest},
		{Add, least, least, 0},
		{Sub, 2, 3, -1},
		{Sub, 3, 2, 1},
		{Sub, least, 1, greatest},
		{Sub, greatest, -1, least},
		{Sub, 0, least, least},
		{Sub, -1, least, greatest},
		{Mul, 6, 7, 42},
		{Mul, -6, 7, -42},
		{Mul, least, -1, least},
		{Mul, -1, least, least},
		{Mul, greatest, 2, -2},
		{Mul, greatest, greatest, 1},
		{Mul, 1 << 32, 1 << 32, 0},
		{Div, 7, 2, 3},
		{Div, -7, 2, -3},
		{Div, 7, -2, -3},
		{Div, -7, -2, 3},
		{Div, 1, 2, 0},
		{Div, -1, 2, 0},
		{Div, 0, 5, 0},
		{Div, least, -1, least},
		{Div, least, 1, least},
		{Div, least, least, 1},
		{Div, greatest, least, 0},
		{Div, greatest, -1, -greatest},
		{Rem, 7, 2, 1},
		{Rem, -7, 2, -1},
		{Rem, 7, -2, 1},
		{Rem, -7, -2, -1},
		{Rem, 1, 2, 1},
		{Rem, 0, 5, 0},
		{Rem, least, -1, 0},
		{Rem, least, greatest, -1},
		{Rem, greatest, least, greatest},
		{And, 6, 3, 2},
		{And, -1, 5, 5},
		{And, least, greatest, 0},
		{Or, 6, 3, 7},
		{Or, -8, 7, -1},
		{Or, least, greatest, -1},
		{Xor, 6, 3, 5},
		{Xor, -1, 5, -6},
		{Xor, least, greatest, -1},
		{Xor, least, least, 0},
		{Shl, 3, 0, 3},
		{Shl, 3, 2, 12},
		{Shl, 1, 63, least},
		{Shl, 3, 63, least},
		{Shl, 2, 63, 0},
		{Shl, 3, 64, 3},
		{Shl, 1, 65, 2},
		{Shl, 3, -1, least},
		{Shl, 1, -63, 2},
		{Shl, 1, -64, 1},
		{Shl, 1, -65, least},
		{Shl, 5, least, 5},
		{Shl, 1, least + 1, 2},
		{Shl, 1, greatest, least},
		{Shl, -1, 1, -2},
		{Shl, least, 1, 0},
		{Shr, -8, 1, -4},
		{Shr, 8, 1, 4},
		{Shr, 9, 1, 4},
		{Shr, -9, 1, -5},
		{Shr, -1, 1, -1},
		{Shr, 3, 0, 3},
		{Shr, least, 63, -1},
		{Shr, greatest, 63, 0},
		{Shr, greatest, 62, 1},
		{Shr, -8, 64, -8},
		{Shr, -8, 65, -4},
		{Shr, least, -1, -1},
		{Shr, greatest, -1, 0},
		{Shr, -8, -63, -4},
		{Shr, -8, -64, -8},
		{Shr, -8, -65, -1},
		{Shr, -8, least, -8},
		{Shr, -8, greatest, -1},
		{Eq, 1, 1, 1},
		{Eq, 1, 2, 0},
		{Eq, 0, 0, 1},
		{Eq, least, least, 1},
		{Eq, least, greatest, 0},
		{Eq, 1, 1 + 1<<32, 0},
		{Less, 1, 2, 1},
		{Less, 2, 1, 0},
		{Less, 1, 1, 0},
		{Less, -1, 0, 1},
		{Less, 0, -1, 0},
		{Less, least, greatest, 1},
		{Less, greatest, least, 0},
	} {
		if n, ok := x.o.Do(x.a, x.b); n != x.want || !ok {
			t.Errorf("P1.1: %s of %d, %d: %d, %t; not %d", x.o.Name(), x.a, x.b, n, ok, x.want)
		}
	}
}

func TestDoByZero(t *testing.T) {
	for o := Op(0); o < Ops; o++ {
		for _, a := range edges {
			n, ok := o.Do(a, 0)
			if ok == o.Traps() || !ok && n != 0 {
				t.Errorf("P1.1, R3: %s of %d, 0: %d, %t", o.Name(), a, n, ok)
			}
		}
	}
}

// reckoned works with numbers of any length and is brought round at the end: another road than the program's.
func reckoned(o Op, a, b int64) (int64, bool) {
	x, y, z := big.NewInt(a), big.NewInt(b), new(big.Int)
	up := uint(new(big.Int).Mod(y, big.NewInt(64)).Int64()) // Euclid's: from 0 up
	switch o {
	case Add:
		z.Add(x, y)
	case Sub:
		z.Sub(x, y)
	case Mul:
		z.Mul(x, y)
	case Div, Rem:
		if b == 0 {
			return 0, false
		}
		left := new(big.Int)
		z.QuoRem(x, y, left)
		if o == Rem {
			z = left
		}
	case And:
		z.And(x, y)
	case Or:
		z.Or(x, y)
	case Xor:
		z.Xor(x, y)
	case Shl:
		z.Lsh(x, up)
	case Shr:
		z.Rsh(x, up)
	case Eq:
		if x.Cmp(y) == 0 {
			z.SetInt64(1)
		}
	case Less:
		if x.Cmp(y) < 0 {
			z.SetInt64(1)
		}
	}
	round := new(big.Int).Lsh(big.NewInt(1), 64)
	return int64(z.Mod(z, round).Uint64()), true
}

func TestDoAgainstLongNumbers(t *testing.T) {
	numbers := append([]int64{}, edges...)
	for x := uint64(1); len(numbers) < 160; { // some between the edges, by a fixed rule
		x = x*6364136223846793005 + 1442695040888963407
		numbers = append(numbers, int64(x))
	}
	for o := Op(0); o < Ops; o++ {
		for _, a := range numbers {
			for _, b := range numbers {
				n, ok := o.Do(a, b)
				want, can := reckoned(o, a, b)
				if n != want || ok != can {
					t.Fatalf("P1.1: %s of %d, %d: %d, %t; not %d, %t", o.Name(), a, b, n, ok, want, can)
				}
			}
		}
	}
}

func TestTurnsIsTheSameTheOtherWayRound(t *testing.T) {
	for o := Op(0); o < Ops; o++ {
		same := true
		for _, a := range edges {
			for _, b := range edges {
				n, ok := o.Do(a, b)
				m, can := o.Do(b, a)
				same = same && n == m && ok == can
			}
		}
		if same != o.Turns() {
			t.Errorf("P1.1: %s: Turns %t, turned it is the same: %t", o.Name(), o.Turns(), same)
		}
	}
}

func TestNoOp(t *testing.T) {
	for i := int(Ops); i < 256; i++ {
		o := Op(i)
		if s := o.Name(); s != "" {
			t.Errorf("P1.1: Name of %d: %q", i, s)
		}
		if o.Traps() || o.Turns() {
			t.Errorf("P1.1: %d Traps %t, Turns %t", i, o.Traps(), o.Turns())
		}
		for _, a := range edges {
			for _, b := range edges {
				if n, ok := o.Do(a, b); n != 0 || ok {
					t.Fatalf("P1.1, R3: %d of %d, %d: %d, %t", i, a, b, n, ok)
				}
			}
		}
	}
}

// TestNothingIsKept asks twice, other calls in between: nothing of an earlier one may show.
func TestNothingIsKept(t *testing.T) {
	for i := range 256 {
		o := Op(i)
		name := o.Name()
		n, ok := o.Do(-8, 3)
		for j := range 256 {
			Op(j).Do(int64(i), int64(j))
			Find(Op(j).Name())
		}
		if m, can := o.Do(-8, 3); m != n || can != ok || o.Name() != name {
			t.Errorf("R8: op %d answers otherwise the second time", i)
		}
	}
}
