package ir

import (
	"math"
	"slices"
	"testing"

	"refinery/word"
)

// full: an instruction of that kind with something in every field.
func full(k Kind) Instr {
	return Instr{Kind: k, Op: word.Sub, Dst: 11, A: 12, B: 13, N: -14, Slot: 15}
}

// P3.1: what each kind sets, reads and has, written out.
var known = [Kinds]struct {
	sets  bool
	reads []int
	pure  bool
	only  Instr
}{
	Const: {true, nil, true, Instr{Kind: Const, Dst: 11, N: -14}},
	Copy:  {true, []int{12}, true, Instr{Kind: Copy, Dst: 11, A: 12}},
	Do:    {true, []int{12, 13}, true, Instr{Kind: Do, Op: word.Sub, Dst: 11, A: 12, B: 13}},
	In:    {true, nil, false, Instr{Kind: In, Dst: 11}},
	Out:   {false, []int{12}, false, Instr{Kind: Out, A: 12}},
	Load:  {true, nil, false, Instr{Kind: Load, Dst: 11, Slot: 15}},
	Store: {false, []int{12}, false, Instr{Kind: Store, A: 12, Slot: 15}},
	Get:   {true, []int{12}, false, Instr{Kind: Get, Dst: 11, A: 12}},
	Put:   {false, []int{12, 13}, false, Instr{Kind: Put, A: 12, B: 13}},
}

// P3.1: each kind, those that there are not included (they have nothing).
func TestKinds(t *testing.T) {
	for i := range 256 {
		k := Kind(i)
		x := full(k)
		want := struct {
			sets  bool
			reads []int
			pure  bool
			only  Instr
		}{only: Instr{Kind: k}}
		if k < Kinds {
			want = known[k]
		}
		dst := 0
		if want.sets {
			dst = 11
		}
		if r, ok := x.Sets(); r != dst || ok != want.sets {
			t.Errorf("kind %d: Sets: %d, %v", k, r, ok)
		}
		if l := x.Reads(); !slices.Equal(l, want.reads) {
			t.Errorf("kind %d: Reads: %v", k, l)
		}
		if x.Pure() != want.pure {
			t.Errorf("kind %d: Pure: %v", k, x.Pure())
		}
		if o := x.Only(); o != want.only || o.Only() != o {
			t.Errorf("kind %d: Only: %+v", k, o)
		}
	}
}

// P3.1: only what is read is turned, in order, A and B that are the same included.
func TestTurned(t *testing.T) {
	for i := range 256 {
		for _, b := range []int{13, 12} {
			x := full(Kind(i))
			x.B = b
			want := x
			switch len(x.Reads()) {
			case 1:
				want.A = 1
			case 2:
				want.A, want.B = 1, 2
			}
			var asked []int
			count := 0
			y := x.Turned(func(r int) int {
				asked = append(asked, r)
				count++
				return count
			})
			if y != want || !slices.Equal(asked, x.Reads()) {
				t.Errorf("kind %d: Turned: %+v, asked %v", i, y, asked)
			}
			if x.Turned(nil) != x {
				t.Errorf("kind %d: turned by no function", i)
			}
		}
	}
}

// P3.1: numbers at their edges pass as they stand.
func TestInstrEdges(t *testing.T) {
	for _, n := range []int{math.MinInt, -1, 0, 99999, 100000, math.MaxInt} {
		x := Instr{Kind: Do, Op: 255, Dst: n, A: n, B: -n}
		if r, ok := x.Sets(); r != n || !ok || !slices.Equal(x.Reads(), []int{n, -n}) || x.Only() != x {
			t.Errorf("%d: %+v", n, x)
		}
		if y := (Instr{Kind: Const, N: int64(n)}); y.Only() != y {
			t.Errorf("%d: %+v", n, y.Only())
		}
		if y := (Instr{Kind: Store, Slot: n}); y.Only() != y {
			t.Errorf("%d: %+v", n, y.Only())
		}
		if y := (Instr{Kind: Copy}).Turned(func(int) int { return n }); y.A != n {
			t.Errorf("%d: turned to %d", n, y.A)
		}
	}
}

// P3.1: a Do is pure, if its op can't trap; the op means nothing to other kinds.
func TestPureOps(t *testing.T) {
	for i := range 256 {
		o := word.Op(i)
		if (Instr{Kind: Do, Op: o}).Pure() != (o != word.Div && o != word.Rem) {
			t.Errorf("Do, op %d", o)
		}
		for k := range Kinds {
			if k != Do && (Instr{Kind: k, Op: o}).Pure() != (k == Const || k == Copy) {
				t.Errorf("kind %d, op %d", k, o)
			}
		}
	}
}

// R6: what was answered is the caller's own.
func TestReadsOwn(t *testing.T) {
	x := full(Put)
	l := x.Reads()
	_ = append(l[:1], 7)
	if !slices.Equal(x.Reads(), []int{12, 13}) {
		t.Error("Reads is shared")
	}
	m := Last{End: Branch, Yes: 1, No: 2}
	m.Labels()[0] = 7
	if !slices.Equal(m.Labels(), []int{1, 2}) {
		t.Error("Labels is shared")
	}
}

// P3.1: each end, those that there are not included.
func TestEnds(t *testing.T) {
	for i := range 256 {
		e := End(i)
		for _, no := range []int{23, 22} {
			l := Last{End: e, A: 21, Yes: 22, No: no}
			reads, to, only := false, []int(nil), Last{End: e}
			switch e {
			case Jump:
				to, only.Yes = []int{22}, 22
			case Branch:
				reads, to, only = true, []int{22, no}, l
				if no == 22 {
					to = []int{22}
				}
			case Return:
				reads, only.A = true, 21
			}
			if r, ok := l.Reads(); r != 21 || ok != reads {
				t.Errorf("end %d: Reads: %d, %v", e, r, ok)
			}
			if !slices.Equal(l.Labels(), to) {
				t.Errorf("end %d: Labels: %v", e, l.Labels())
			}
			if o := l.Only(); o != only || o.Only() != o {
				t.Errorf("end %d: Only: %+v", e, o)
			}
		}
	}
}

// P3.1: labels needn't rise, and registers and labels pass as they stand.
func TestEndEdges(t *testing.T) {
	for _, n := range []int{math.MinInt, -1, 99999, 100000, math.MaxInt} {
		l := Last{End: Branch, A: n, Yes: n, No: 0}
		if r, ok := l.Reads(); r != n || !ok || !slices.Equal(l.Labels(), []int{n, 0}) || l.Only() != l {
			t.Errorf("%d: %+v", n, l)
		}
	}
	if r, ok := (Last{}).Reads(); r != 0 || ok || !slices.Equal(Last{}.Labels(), []int{0}) {
		t.Error("the zero end is a jump to 0")
	}
}
