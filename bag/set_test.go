package bag

import (
	"cmp"
	"math"
	"slices"
	"testing"
)

// hold: a set is exactly the items of a list that rises, by every call that looks at it.
func hold[T cmp.Ordered](t *testing.T, what string, s Set[T], want []T) {
	t.Helper()
	if l := s.List(); !slices.Equal(l, want) {
		t.Fatalf("%s: List: %v, want %v", what, l, want)
	}
	if s.Len() != len(want) {
		t.Fatalf("%s: Len: %d, want %d", what, s.Len(), len(want))
	}
	var all []T
	for x := range s.All() {
		all = append(all, x)
	}
	if !slices.Equal(all, want) {
		t.Fatalf("%s: All: %v, want %v", what, all, want)
	}
	for _, x := range want {
		if !s.Has(x) {
			t.Fatalf("%s: has no %v", what, x)
		}
	}
	if !s.Same(Of(want...)) || !Of(want...).Same(s) {
		t.Fatalf("%s: isn't the same as a set of its items", what)
	}
}

// subset: those of 0 to 4 whose bits are set.
func subset(bits int) []int {
	var l []int
	for i := range 5 {
		if bits>>i&1 == 1 {
			l = append(l, i)
		}
	}
	return l
}

// P2.1: Of.
func TestOf(t *testing.T) {
	hold(t, "none", Of[int](), nil)
	hold(t, "none", Of([]int{}...), nil)
	hold(t, "one", Of(7), []int{7})
	hold(t, "the example", Of(3, 1, 3), []int{1, 3})
	hold(t, "edges", Of(math.MaxInt, 0, math.MinInt, -1, 0, 1, math.MaxInt), []int{math.MinInt, -1, 0, 1, math.MaxInt})
	hold(t, "texts", Of("b", "", "aa", "a", "é", "b", "B"), []string{"", "B", "a", "aa", "b", "é"})
	hold(t, "bytes", Of[uint8](255, 0, 255), []uint8{0, 255})
	hold(t, "floats", Of(1.5, math.Inf(1), -2, math.Inf(-1)), []float64{math.Inf(-1), -2, 1.5, math.Inf(1)})
	var many, want []int
	for i := range 1000 {
		many = append(many, i*37%100)
	}
	for i := range 100 {
		want = append(want, i)
	}
	hold(t, "many", Of(many...), want)
}

// P2.1, R6: Of neither changes nor keeps the list that it is given.
func TestOfLeavesList(t *testing.T) {
	room := []int{3, 1, 2, 9, 8}
	s := Of(room[:3]...)
	if !slices.Equal(room, []int{3, 1, 2, 9, 8}) {
		t.Errorf("the list is %v", room)
	}
	s.Add(0)
	s.Add(7)
	s.Drop(1)
	if !slices.Equal(room, []int{3, 1, 2, 9, 8}) {
		t.Errorf("the list is %v behind changes of the set", room)
	}
	rising := []int{1, 2, 3}
	s = Of(rising...)
	rising[0], rising[2] = 5, 6
	hold(t, "the list was changed", s, []int{1, 2, 3})
}

// P2.1: 0 and -0 are the same: one is there, the one that came first.
func TestZeros(t *testing.T) {
	minus := math.Copysign(0, -1)
	for _, first := range []float64{0, minus} {
		s := Of(first, -first, first)
		if s.Len() != 1 || !s.Has(-first) || s.Add(-first) {
			t.Errorf("of both: %v", s.List())
		}
		if math.Signbit(s.List()[0]) != math.Signbit(first) {
			t.Error("the second one stayed")
		}
		if s.Join(Of(-first)) || math.Signbit(s.List()[0]) != math.Signbit(first) {
			t.Error("joined, the second one stayed")
		}
		if !s.Join(Of(-first, 4)) || math.Signbit(s.List()[0]) != math.Signbit(first) {
			t.Error("joined with more, the second one stayed")
		}
		if !s.Drop(-first) || s.Len() != 1 {
			t.Error("not dropped")
		}
	}
}

// P2.1: all rows of five changes of three items.
func TestAddDrop(t *testing.T) {
	items := []int{-4, 0, 9}
	for row := range 6 * 6 * 6 * 6 * 6 {
		var s Set[int]
		var there []int
		for r, n := row, 0; n < 5; n++ {
			x, drop := items[r%3], r/3%2 == 1
			r /= 6
			had := slices.Contains(there, x)
			if drop {
				if s.Drop(x) != had {
					t.Fatalf("row %d: Drop %d of %v", row, x, there)
				}
				there = slices.DeleteFunc(there, func(y int) bool { return y == x })
			} else {
				if s.Add(x) == had {
					t.Fatalf("row %d: Add %d to %v", row, x, there)
				}
				if !had {
					there = append(there, x)
				}
			}
			slices.Sort(there)
			hold(t, "a row", s, there)
			for _, y := range items {
				if s.Has(y) != slices.Contains(there, y) {
					t.Fatalf("row %d: Has %d of %v", row, y, there)
				}
			}
		}
	}
}

// P2.1: many items, put in and dropped from all sides.
func TestManyItems(t *testing.T) {
	var s Set[int]
	there := map[int]bool{}
	n := uint32(1)
	for i := range 4000 {
		n = n*1664525 + 1013904223
		x := int(n>>16%200) - 100
		if n>>8%3 == 0 {
			if s.Drop(x) != there[x] {
				t.Fatalf("change %d: Drop %d", i, x)
			}
			delete(there, x)
			continue
		}
		if s.Add(x) == there[x] {
			t.Fatalf("change %d: Add %d", i, x)
		}
		there[x] = true
		if s.Len() != len(there) {
			t.Fatalf("change %d: %d items, want %d", i, s.Len(), len(there))
		}
	}
	var want []int
	for x := range there {
		want = append(want, x)
	}
	slices.Sort(want)
	hold(t, "many", s, want)
	for x := -101; x <= 101; x++ {
		if s.Has(x) != there[x] {
			t.Errorf("Has %d", x)
		}
	}
	for _, x := range want {
		if !s.Drop(x) || s.Drop(x) {
			t.Errorf("Drop %d", x)
		}
	}
	hold(t, "all dropped", s, nil)
	if !s.Add(5) {
		t.Error("none can be put in again")
	}
	hold(t, "one put in again", s, []int{5})
}

// P2.1: looking at all may stop, and begins anew each time.
func TestAllStops(t *testing.T) {
	s := Of("d", "a", "c", "b")
	all := s.All()
	for stop := 1; stop <= 4; stop++ {
		seen := ""
		for x := range all {
			if seen += x; len(seen) == stop {
				break
			}
		}
		if seen != "abcd"[:stop] {
			t.Errorf("stopped behind %d: %s", stop, seen)
		}
	}
	calls := 0
	all(func(string) bool { calls++; return false })
	if calls != 1 {
		t.Errorf("%d calls, though the first stopped it", calls)
	}
	all(nil)
	hold(t, "looked at", s, []string{"a", "b", "c", "d"})
}

// P2.1, R6: a list is new memory.
func TestListIsNew(t *testing.T) {
	s := Of(1, 2, 3)
	l, m := s.List(), s.List()
	l[0], l[1], l[2] = 9, 9, 9
	_ = append(l[:1], 8, 8)
	hold(t, "a list of it was changed", s, []int{1, 2, 3})
	if !slices.Equal(m, []int{1, 2, 3}) {
		t.Errorf("the other list: %v", m)
	}
	s.Drop(1)
	s.Add(7)
	if !slices.Equal(m, []int{1, 2, 3}) {
		t.Errorf("the list of a set that was changed: %v", m)
	}
}

// P2.1: all pairs of sets of five items.
func TestJoinAndSame(t *testing.T) {
	for i := range 32 {
		for j := range 32 {
			s, o := Of(subset(i)...), Of(subset(j)...)
			if s.Same(o) != (i == j) {
				t.Fatalf("Same of %v and %v", s.List(), o.List())
			}
			if s.Join(o) != (i|j != i) {
				t.Fatalf("Join of %v and %v", subset(i), subset(j))
			}
			hold(t, "joined", s, subset(i|j))
			hold(t, "the other", o, subset(j))
			if s.Join(o) {
				t.Fatalf("%v and %v joined twice", subset(i), subset(j))
			}
		}
	}
}

// P2.1: sets are the same however they came about.
func TestSameHoweverMade(t *testing.T) {
	var zero Set[int]
	var s Set[int]
	for _, x := range []int{5, 4, 1, 2, 3, 4} {
		s.Add(x)
	}
	o := Of(1, 2)
	o.Join(Of(5, 4, 3))
	if !s.Same(o) || !o.Same(s) || !s.Same(s) {
		t.Error("two that have the same")
	}
	for x := range 6 {
		s.Drop(x)
	}
	if !s.Same(zero) || !zero.Same(s) || !zero.Same(Of[int]()) || s.Same(o) {
		t.Error("two that have nothing")
	}
	if Of("a").Same(Of("b")) || Of("a").Same(Of("a", "")) || Of(1, 2, 3).Same(Of(1, 2, 4)) {
		t.Error("two that don't have the same")
	}
}

// P2.1, R6: what is joined stays apart behind that.
func TestJoinKeepsApart(t *testing.T) {
	var s Set[int]
	o := Of(1, 2, 3)
	s.Join(o)
	s.Drop(2)
	s.Add(0)
	hold(t, "the other", o, []int{1, 2, 3})
	o.Drop(1)
	o.Add(9)
	o.Add(10)
	hold(t, "the joined", s, []int{0, 1, 3})
	if s.Join(s) {
		t.Error("joined with itself")
	}
	hold(t, "joined with itself", s, []int{0, 1, 3})
}

// P2.1, R6: a copy and what it was made of stay apart, both ways.
func TestCloneKeepsApart(t *testing.T) {
	var s Set[int]
	for i := range 5 { // grown one by one, so that there is spare room
		s.Add(2 * i)
	}
	c, d := s.Clone(), s.Clone()
	hold(t, "a copy", c, []int{0, 2, 4, 6, 8})
	s.Add(10)
	c.Add(11)
	d.Join(Of(12, 3))
	hold(t, "put in", s, []int{0, 2, 4, 6, 8, 10})
	hold(t, "put in", c, []int{0, 2, 4, 6, 8, 11})
	hold(t, "put in", d, []int{0, 2, 3, 4, 6, 8, 12})
	s.Drop(0)
	c.Drop(8)
	c.Add(1)
	hold(t, "dropped", s, []int{2, 4, 6, 8, 10})
	hold(t, "dropped", c, []int{0, 1, 2, 4, 6, 11})
	hold(t, "dropped", d, []int{0, 2, 3, 4, 6, 8, 12})
	e := Of[string]().Clone()
	if !e.Add("a") {
		t.Error("a copy of none")
	}
}

// R7: a zero set is one of nothing; nothing is in a nil one, nor put into it.
func TestZeroAndNilSet(t *testing.T) {
	var s Set[string]
	hold(t, "zero", s, nil)
	if s.Has("") || s.Drop("") || s.Join(Of[string]()) || s.Join(s) {
		t.Error("a zero set has something")
	}
	hold(t, "a copy of zero", s.Clone(), nil)
	s.All()(nil)
	if !s.Join(Of("")) || !s.Has("") {
		t.Error("nothing can be put into a zero set")
	}
	var none *Set[int]
	if none.Add(1) || none.Drop(1) || none.Join(Of(1)) || none.Join(Set[int]{}) {
		t.Error("a nil set took something")
	}
}

// P1: what isn't the same as itself is no item, but each call ends.
func TestSetEndsOnNoItem(t *testing.T) {
	no := math.NaN()
	s := Of(no, 1, no, -1)
	s.Add(no)
	s.Has(no)
	s.Join(Of(no, 2, no))
	s.Same(s.Clone())
	s.Drop(no)
	if !s.Has(1) || !s.Has(-1) || !s.Has(2) {
		t.Error("the items are gone")
	}
}
