package bag

import (
	"math"
	"slices"
	"testing"
)

// P2.2: all rows of seven calls: Put of three items, Take.
func TestPutTake(t *testing.T) {
	items := []string{"", "a", "b"}
	for row := range 4 * 4 * 4 * 4 * 4 * 4 * 4 {
		var q Queue[string]
		var wait []string
		for r, n := row, 0; n < 7; n++ {
			c := r % 4
			r /= 4
			if c < 3 {
				waits := slices.Contains(wait, items[c])
				if q.Put(items[c]) == waits {
					t.Fatalf("row %d: Put %q behind %q", row, items[c], wait)
				}
				if !waits {
					wait = append(wait, items[c])
				}
			} else if x, ok := q.Take(); len(wait) == 0 {
				if x != "" || ok {
					t.Fatalf("row %d: Take of none: %q, %t", row, x, ok)
				}
			} else {
				if x != wait[0] || !ok {
					t.Fatalf("row %d: Take of %q: %q, %t", row, wait, x, ok)
				}
				wait = wait[1:]
			}
			if q.Len() != len(wait) {
				t.Fatalf("row %d: %d wait, want %d", row, q.Len(), len(wait))
			}
		}
		if l := slices.Collect(q.Drain()); !slices.Equal(l, wait) || q.Len() != 0 {
			t.Fatalf("row %d: Drain: %q, want %q", row, l, wait)
		}
	}
}

// P2.2: first in, first out, while the queue grows and shrinks.
func TestManyWait(t *testing.T) {
	var q Queue[int]
	put, taken := 0, 0
	for round := range 300 {
		for range round % 40 {
			if !q.Put(put) || q.Put(put) {
				t.Fatalf("Put %d", put)
			}
			put++
		}
		for range round % 37 {
			x, ok := q.Take()
			if ok != (taken < put) || ok && x != taken {
				t.Fatalf("Take: %d, %t, want %d", x, ok, taken)
			}
			if ok {
				taken++
			}
		}
		if q.Len() != put-taken {
			t.Fatalf("%d wait, want %d", q.Len(), put-taken)
		}
	}
	for x := range q.Drain() {
		if x != taken {
			t.Fatalf("Drain: %d, want %d", x, taken)
		}
		taken++
	}
	if taken != put {
		t.Errorf("%d taken, %d put in", taken, put)
	}
}

// P2.2: what is put in while it is drained comes, too; what was taken may be put in again.
func TestDrainMeanwhile(t *testing.T) {
	var q Queue[int]
	q.Put(1)
	q.Put(2)
	var seen []int
	for x := range q.Drain() {
		seen = append(seen, x)
		if len(seen) < 6 && !q.Put(x) {
			t.Errorf("%d was taken, and isn't put in", x)
		}
		if len(seen) < 6 && q.Put(3-x) {
			t.Errorf("%d is put in, though it waits", 3-x)
		}
		if len(seen) == 3 && !q.Put(3) {
			t.Error("3 isn't put in")
		}
	}
	if want := []int{1, 2, 1, 2, 1, 3, 2, 1}; !slices.Equal(seen, want) {
		t.Errorf("drained %v, want %v", seen, want)
	}
	if x, ok := q.Take(); x != 0 || ok {
		t.Errorf("behind draining: %d, %t", x, ok)
	}
}

// P2.2: one may stop and go on; what was seen is gone.
func TestDrainStops(t *testing.T) {
	var q Queue[string]
	for _, x := range []string{"a", "b", "c", "d"} {
		q.Put(x)
	}
	all := q.Drain()
	for x := range all {
		if x != "a" {
			t.Errorf("the first: %s", x)
		}
		break
	}
	if q.Len() != 3 || !q.Put("a") {
		t.Errorf("stopped: %d wait", q.Len())
	}
	if x, ok := q.Take(); x != "b" || !ok {
		t.Errorf("taken between: %s, %t", x, ok)
	}
	calls := 0
	all(func(string) bool { calls++; return false })
	if calls != 1 || q.Len() != 2 {
		t.Errorf("%d calls, %d wait", calls, q.Len())
	}
	seen := ""
	for x := range all {
		seen += x
		for y := range q.Drain() { // one within the other: each item comes once
			seen += y
		}
	}
	if seen != "da" || q.Len() != 0 {
		t.Errorf("went on: %s, %d wait", seen, q.Len())
	}
	for x := range all {
		t.Errorf("none waits, but %s came", x)
	}
	q.Put("e")
	if l := slices.Collect(all); !slices.Equal(l, []string{"e"}) {
		t.Errorf("put in behind draining: %v", l)
	}
}

// P2.2: items may be whatever can be held against another.
func TestQueueOfStructs(t *testing.T) {
	type pair struct{ a, b int }
	var q Queue[pair]
	if !q.Put(pair{1, 2}) || !q.Put(pair{2, 1}) || q.Put(pair{1, 2}) || q.Len() != 2 {
		t.Error("pairs")
	}
	var p Queue[*int]
	one, two := 1, 1
	if !p.Put(&one) || !p.Put(&two) || !p.Put(nil) || p.Put(&one) || p.Put(nil) || p.Len() != 3 {
		t.Error("pointers")
	}
}

// R7: a zero queue is one of nothing; nothing is in a nil one, nor put into it.
func TestZeroAndNilQueue(t *testing.T) {
	var q Queue[int]
	var none *Queue[int]
	for _, z := range []*Queue[int]{&q, none} {
		if x, ok := z.Take(); x != 0 || ok || z.Len() != 0 {
			t.Error("something waits")
		}
		for x := range z.Drain() {
			t.Errorf("%d waits", x)
		}
		z.Drain()(nil)
	}
	if none.Put(0) || none.Len() != 0 {
		t.Error("a nil queue took something")
	}
	q.Put(4)
	q.Drain()(nil)
	if q.Len() != 1 {
		t.Error("taken for nobody")
	}
}

// P1: what can't be held against another, or isn't the same as itself, is no item, but each call ends.
func TestQueueEndsOnNoItem(t *testing.T) {
	var q Queue[any]
	for range 2 {
		if q.Put([]int{1}) || q.Put(map[int]int{}) || q.Put([1]any{func() {}}) {
			t.Error("put in")
		}
		if !q.Put(1) || q.Put(1) || !q.Put("a") || !q.Put(nil) || q.Len() != 3 {
			t.Error("the others aren't put in")
		}
		if l := slices.Collect(q.Drain()); !slices.Equal(l, []any{1, "a", nil}) {
			t.Errorf("drained %v", l)
		}
	}
	var f Queue[float64]
	f.Put(math.NaN())
	f.Put(math.NaN())
	f.Put(1)
	for range f.Drain() {
	}
	if f.Len() != 0 || !f.Put(1) || !f.Put(0) || f.Put(math.Copysign(0, -1)) {
		t.Error("floats")
	}
}
