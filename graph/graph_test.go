package graph

import (
	"fmt"
	"math"
	"slices"
	"testing"
)

// joined: a graph of n places, joined in the order of the pairs.
func joined(n int, pairs ...[2]int) Graph {
	g := New(n)
	for _, e := range pairs {
		g.Join(e[0], e[1])
	}
	return g
}

func is[T comparable](t *testing.T, what any, got, want []T) {
	t.Helper()
	if !slices.Equal(got, want) {
		t.Errorf("%v: %v, not %v", what, got, want)
	}
}

// told is all that a graph answers.
type told struct {
	Len           int
	Behind, Ahead [][]int
	First, Order  []int
	Reached       []bool
}

func tell(g Graph) told {
	a := told{Len: g.Len(), First: slices.Collect(g.First()), Order: g.Order(), Reached: g.Reached()}
	for i := range g.Len() {
		a.Behind, a.Ahead = append(a.Behind, g.Behind(i)), append(a.Ahead, g.Ahead(i))
	}
	return a
}

// same: do two graphs answer the same?
func same(t *testing.T, what any, g, h Graph) {
	t.Helper()
	if a, b := fmt.Sprint(tell(g)), fmt.Sprint(tell(h)); a != b {
		t.Errorf("%v: %s, not %s", what, a, b)
	}
}

// outside: places that a graph of n has none of.
func outside(n int) []int {
	return []int{math.MinInt, math.MinInt + 1, -n - 1, -2, -1, n, n + 1, 2*n + 2, 1 << 32, math.MaxInt - 1, math.MaxInt}
}

// P7.1: graphs of no place, of one, of many: none is behind another one.
func TestNew(t *testing.T) {
	for n, want := range map[int]int{math.MinInt: 0, -400: 0, -1: 0, 0: 0, 1: 1, 2: 2, 3: 3, 400: 400, 401: 401, 70000: 70000} {
		g := New(n)
		if g.Len() != want {
			t.Errorf("P7.1: New(%d).Len: %d", n, g.Len())
		}
		for i := range want {
			if len(g.Behind(i)) != 0 || len(g.Ahead(i)) != 0 {
				t.Errorf("P7.1: of %d places, at %d: behind %v, ahead %v", n, i, g.Behind(i), g.Ahead(i))
			}
		}
		reached := make([]bool, want)
		var first []int
		if want > 0 {
			reached[0], first = true, []int{0}
		}
		is(t, "P7.2: Reached of none joined", g.Reached(), reached)
		is(t, "P7.2: First of none joined", slices.Collect(g.First()), first)
		is(t, "P7.2: Order of none joined", g.Order(), first)
	}
}

// R7: a zero graph does what one of no place does.
func TestZero(t *testing.T) {
	var zero Graph
	for _, g := range []Graph{zero, {}, New(0), New(-1), New(math.MinInt)} {
		for _, a := range outside(0) {
			g.Join(a, 0)
			g.Join(0, a)
			g.Join(a, a)
			if len(g.Behind(a)) != 0 || len(g.Ahead(a)) != 0 {
				t.Errorf("P7.1: a place %d of none", a)
			}
		}
		if g.Len() != 0 || len(g.Order()) != 0 || len(g.Reached()) != 0 || len(g.Behind(0)) != 0 || len(g.Ahead(0)) != 0 {
			t.Errorf("R7: of no place: %v", tell(g))
		}
		for i := range g.First() {
			t.Errorf("R7: of no place: %d is met", i)
		}
		g.First()(nil)
	}
}

// P7.1: Behind as they were joined, Ahead rising.
func TestJoin(t *testing.T) {
	g := joined(6, [2]int{3, 5}, [2]int{0, 4}, [2]int{3, 0}, [2]int{3, 4}, [2]int{5, 4}, [2]int{0, 5}, [2]int{3, 1}, [2]int{1, 4}, [2]int{4, 0})
	is(t, "P7.1: Behind(3)", g.Behind(3), []int{5, 0, 4, 1})
	is(t, "P7.1: Behind(0)", g.Behind(0), []int{4, 5})
	is(t, "P7.1: Behind(1)", g.Behind(1), []int{4})
	is(t, "P7.1: Behind(2)", g.Behind(2), nil)
	is(t, "P7.1: Behind(4)", g.Behind(4), []int{0})
	is(t, "P7.1: Behind(5)", g.Behind(5), []int{4})
	is(t, "P7.1: Ahead(4)", g.Ahead(4), []int{0, 1, 3, 5})
	is(t, "P7.1: Ahead(5)", g.Ahead(5), []int{0, 3})
	is(t, "P7.1: Ahead(0)", g.Ahead(0), []int{3, 4})
	is(t, "P7.1: Ahead(1)", g.Ahead(1), []int{3})
	is(t, "P7.1: Ahead(2)", g.Ahead(2), nil)
	is(t, "P7.1: Ahead(3)", g.Ahead(3), nil)
	if g.Len() != 6 {
		t.Errorf("P7.1: Len: %d", g.Len())
	}
}

// P7.1: what is behind one is there once, at its first place; one may be behind itself.
func TestJoinTwice(t *testing.T) {
	once := joined(4, [2]int{0, 3}, [2]int{0, 1}, [2]int{2, 2}, [2]int{1, 0}, [2]int{0, 0}, [2]int{3, 3})
	is(t, "P7.1: Behind(0)", once.Behind(0), []int{3, 1, 0})
	is(t, "P7.1: Ahead(0)", once.Ahead(0), []int{0, 1})
	is(t, "P7.1: Behind(2)", once.Behind(2), []int{2})
	is(t, "P7.1: Ahead(2)", once.Ahead(2), []int{2})
	is(t, "P7.1: Ahead(3)", once.Ahead(3), []int{0, 3})
	twice := joined(4, [2]int{0, 3}, [2]int{0, 3}, [2]int{0, 1}, [2]int{0, 3}, [2]int{2, 2}, [2]int{2, 2},
		[2]int{1, 0}, [2]int{0, 0}, [2]int{0, 1}, [2]int{0, 3}, [2]int{3, 3}, [2]int{0, 0}, [2]int{3, 3}, [2]int{1, 0})
	same(t, "P7.1: joined twice", twice, once)
}

// P7.1: nothing is joined with a place that there isn't, and it has none.
func TestNoPlace(t *testing.T) {
	for _, n := range []int{1, 2, 5, 400} {
		g, h := New(n), New(n)
		for i := range n {
			g.Join(i, (i+1)%n)
			h.Join(i, (i+1)%n)
		}
		for _, a := range outside(n) {
			for i := range n {
				g.Join(a, i)
				g.Join(i, a)
			}
			for _, b := range outside(n) {
				g.Join(a, b)
			}
			if len(g.Behind(a)) != 0 || len(g.Ahead(a)) != 0 {
				t.Errorf("P7.1: of %d places %d has %v behind, %v ahead", n, a, g.Behind(a), g.Ahead(a))
			}
		}
		same(t, "P7.1: joined with no place", g, h)
		g.Join(n-1, n/2)
		h.Join(n-1, n/2)
		same(t, "P7.1: joined with no place, then with one", g, h)
	}
}

// P7.1: the graph is changed, by whichever name it is called; another one isn't.
func TestChanged(t *testing.T) {
	g, other := New(3), New(3)
	h := g
	h.Join(0, 2)
	g.Join(0, 1)
	is(t, "P7.1: Behind(0)", g.Behind(0), []int{2, 1})
	same(t, "P7.1: one graph", g, h)
	same(t, "P7.1: another graph", other, New(3))
	func(g Graph) { g.Join(1, 0) }(g)
	is(t, "P7.1: Ahead(0)", g.Ahead(0), []int{1})
}

// P7.1: many behind one and many ahead of one, joined rising, falling, from the middle.
func TestMany(t *testing.T) {
	const n = 5000
	for _, k := range []int{1, n - 1, 7, 2501} {
		out, in := New(n), New(n)
		var order, rising []int
		for i := range n {
			p := i * k % n
			order, rising = append(order, p), append(rising, i)
			for range 2 {
				out.Join(n/2, p)
				in.Join(p, n/2)
			}
		}
		is(t, "P7.1: Behind", out.Behind(n/2), order)
		is(t, "P7.1: Ahead", in.Ahead(n/2), rising)
		for i := range n {
			if i != n/2 {
				is(t, "P7.1: Ahead", out.Ahead(i), []int{n / 2})
				is(t, "P7.1: Behind", in.Behind(i), []int{n / 2})
			}
		}
	}
}

// P1: graphs of more places than there is room for are joined and walked as others are.
func TestHuge(t *testing.T) {
	for _, n := range []int{1 << 31, 1 << 40, math.MaxInt - 1, math.MaxInt} {
		g := New(n)
		g.Join(0, n-1)
		g.Join(n-1, n/2)
		g.Join(n-1, n)
		g.Join(n, 0)
		g.Join(n-1, 0)
		if g.Len() != n {
			t.Errorf("P7.1: Len: %d, not %d", g.Len(), n)
		}
		is(t, "P7.1: Behind", g.Behind(n-1), []int{n / 2, 0})
		is(t, "P7.1: Ahead", g.Ahead(n/2), []int{n - 1})
		is(t, "P7.2: First", slices.Collect(g.First()), []int{0, n - 1, n / 2})
		is(t, "P7.2: Order", g.Order(), []int{0, n - 1, n / 2})
		g.Reached()
	}
}

// R6: what is answered is new memory each time: what becomes of it doesn't touch the graph, nor another answer.
func TestNewMemory(t *testing.T) {
	sample := func() Graph {
		return joined(5, [2]int{0, 3}, [2]int{0, 1}, [2]int{0, 2}, [2]int{1, 3}, [2]int{2, 3}, [2]int{3, 0}, [2]int{0, 0})
	}
	g := sample()
	for range 2 {
		for i := range 5 {
			for _, l := range [][]int{g.Behind(i), g.Ahead(i), g.Order(), slices.Collect(g.First())} {
				for j := range l {
					l[j] = 4
				}
				_ = append(l, 4, 4, 4)
			}
		}
		for l, j := g.Reached(), 0; j < len(l); j++ {
			l[j] = !l[j]
		}
		same(t, "R6: answers were changed", g, sample())
	}
	behind, ahead, order, reached := g.Behind(0), g.Ahead(3), g.Order(), g.Reached()
	g.Join(0, 4)
	g.Join(4, 3)
	is(t, "R6: Behind, kept", behind, []int{3, 1, 2, 0})
	is(t, "R6: Ahead, kept", ahead, []int{0, 1, 2})
	is(t, "R6: Order, kept", order, []int{0, 2, 1, 3})
	is(t, "R6: Reached, kept", reached, []bool{true, true, true, true, false})
	behind = append(behind, 9)
	is(t, "R6: Behind, behind an answer that grew", g.Behind(0), []int{3, 1, 2, 0, 4})
	is(t, "R6: an answer that grew", behind, []int{3, 1, 2, 0, 9})
}
