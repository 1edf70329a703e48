package graph

import (
	"runtime/debug"
	"slices"
	"testing"
)

// P7.2: the chapter's example, and graphs whose answers are written out.
func TestWalks(t *testing.T) {
	for name, c := range map[string]struct {
		n            int
		pairs        [][2]int
		first, order []int
	}{
		"example":            {3, [][2]int{{0, 1}, {0, 2}}, []int{0, 1, 2}, []int{0, 2, 1}},
		"other way round":    {3, [][2]int{{0, 2}, {0, 1}}, []int{0, 2, 1}, []int{0, 1, 2}},
		"row":                {4, [][2]int{{0, 1}, {1, 2}, {2, 3}}, []int{0, 1, 2, 3}, []int{0, 1, 2, 3}},
		"row, mixed":         {4, [][2]int{{0, 3}, {3, 1}, {1, 2}}, []int{0, 3, 1, 2}, []int{0, 3, 1, 2}},
		"tree":               {7, [][2]int{{0, 1}, {0, 2}, {1, 3}, {1, 4}, {2, 5}, {2, 6}}, []int{0, 1, 3, 4, 2, 5, 6}, []int{0, 2, 6, 5, 1, 4, 3}},
		"tree, turned":       {7, [][2]int{{2, 6}, {2, 5}, {1, 4}, {1, 3}, {0, 2}, {0, 1}}, []int{0, 2, 6, 5, 1, 4, 3}, []int{0, 1, 3, 4, 2, 5, 6}},
		"ways that meet":     {4, [][2]int{{0, 1}, {0, 2}, {1, 3}, {2, 3}}, []int{0, 1, 3, 2}, []int{0, 2, 1, 3}},
		"meet, and on":       {6, [][2]int{{0, 1}, {0, 2}, {1, 3}, {2, 3}, {3, 4}, {4, 5}}, []int{0, 1, 3, 4, 5, 2}, []int{0, 2, 1, 3, 4, 5}},
		"short and long way": {4, [][2]int{{0, 3}, {0, 1}, {1, 2}, {2, 3}}, []int{0, 3, 1, 2}, []int{0, 1, 2, 3}},
		"long and short way": {4, [][2]int{{0, 1}, {0, 3}, {1, 2}, {2, 3}}, []int{0, 1, 2, 3}, []int{0, 1, 2, 3}},
		"deep ahead of wide": {5, [][2]int{{0, 1}, {0, 2}, {0, 3}, {1, 4}, {4, 3}, {3, 2}}, []int{0, 1, 4, 3, 2}, []int{0, 1, 4, 3, 2}},
		"ring":               {3, [][2]int{{0, 1}, {1, 2}, {2, 0}}, []int{0, 1, 2}, []int{0, 1, 2}},
		"ring within":        {5, [][2]int{{0, 1}, {1, 2}, {2, 3}, {3, 1}, {3, 4}}, []int{0, 1, 2, 3, 4}, []int{0, 1, 2, 3, 4}},
		"two ways in":        {3, [][2]int{{0, 1}, {0, 2}, {1, 2}, {2, 1}}, []int{0, 1, 2}, []int{0, 1, 2}},
		"two ways in, other": {3, [][2]int{{0, 2}, {0, 1}, {1, 2}, {2, 1}}, []int{0, 2, 1}, []int{0, 2, 1}},
		"itself":             {1, [][2]int{{0, 0}}, []int{0}, []int{0}},
		"themselves":         {3, [][2]int{{0, 0}, {0, 2}, {2, 2}, {1, 1}}, []int{0, 2}, []int{0, 2}},
		"none":               {4, [][2]int{{1, 2}, {2, 3}, {3, 1}}, []int{0}, []int{0}},
		"ahead, not reached": {5, [][2]int{{1, 0}, {2, 4}, {0, 4}, {3, 2}, {4, 4}}, []int{0, 4}, []int{0, 4}},
		"no place":           {0, [][2]int{{0, 0}}, nil, nil},
	} {
		g := joined(c.n, c.pairs...)
		is(t, "P7.2: First: "+name, slices.Collect(g.First()), c.first)
		is(t, "P7.2: Order: "+name, g.Order(), c.order)
		reached := make([]bool, c.n)
		for _, i := range c.first {
			reached[i] = true
		}
		is(t, "P7.2: Reached: "+name, g.Reached(), reached)
	}
}

// plain is what the chapter says of a walk, in calls within calls.
type plain struct {
	behind    map[int][]int
	met, left []int
}

func (w *plain) visit(i int) {
	if slices.Contains(w.met, i) {
		return
	}
	w.met = append(w.met, i)
	for _, next := range w.behind[i] {
		w.visit(next)
	}
	w.left = append(w.left, i)
}

// reachable: the places that pairs lead to from 0, found by going through all pairs till no more is.
func reachable(n int, pairs [][2]int) []bool {
	l := make([]bool, n)
	l[0] = true
	for more := true; more; {
		more = false
		for _, e := range pairs {
			if l[e[0]] && !l[e[1]] {
				l[e[1]], more = true, true
			}
		}
	}
	return l
}

func holds(t *testing.T, n int, pairs [][2]int) {
	t.Helper()
	g := joined(n, pairs...)
	w := plain{behind: map[int][]int{}}
	ahead := make([][]int, n)
	for _, e := range pairs {
		if !slices.Contains(w.behind[e[0]], e[1]) {
			w.behind[e[0]] = append(w.behind[e[0]], e[1])
			ahead[e[1]] = append(ahead[e[1]], e[0])
		}
	}
	for i := range n {
		slices.Sort(ahead[i])
		is(t, "P7.1: Behind", g.Behind(i), w.behind[i])
		is(t, "P7.1: Ahead", g.Ahead(i), ahead[i])
	}
	w.visit(0)
	slices.Reverse(w.left)
	is(t, pairs, slices.Collect(g.First()), w.met)
	is(t, pairs, g.Order(), w.left)
	is(t, pairs, g.Reached(), reachable(n, pairs))
}

// P7.1, P7.2: all graphs of up to three places, joined in several orders.
func TestAllSmall(t *testing.T) {
	for n := 1; n <= 3; n++ {
		for some := range 1 << (n * n) {
			for _, k := range []int{1, n*n - 1, 5} {
				var pairs [][2]int
				for i := range n * n {
					if j := i * k % (n * n); some>>j&1 == 1 {
						pairs = append(pairs, [2]int{j / n, j % n})
					}
				}
				holds(t, n, pairs)
			}
		}
	}
}

// dice: numbers below a limit, the same at each run.
func dice(seed uint64) func(limit int) int {
	return func(limit int) int {
		seed = seed*6364136223846793005 + 1442695040888963407
		return int(seed>>33) % limit
	}
}

// P7.1, P7.2: any graphs, sparse and dense.
func TestAny(t *testing.T) {
	throw := dice(7)
	for range 3000 {
		n := 1 + throw(12)
		pairs := make([][2]int, throw(3*n))
		for i := range pairs {
			pairs[i] = [2]int{throw(n), throw(n)}
		}
		holds(t, n, pairs)
	}
	for _, n := range []int{100, 400} {
		pairs := make([][2]int, 2*n)
		for i := range pairs {
			pairs[i] = [2]int{throw(n), throw(n)}
		}
		holds(t, n, pairs)
	}
}

// P7.2: Order has each place ahead of those behind it, where it doesn't go in rounds.
func TestOrderRises(t *testing.T) {
	throw := dice(11)
	for range 500 {
		n := 2 + throw(30)
		g := New(n)
		for range 3 * n {
			if a, b := throw(n), throw(n); a != b {
				g.Join(min(a, b), max(a, b))
			}
		}
		order := g.Order()
		for at, i := range order {
			for _, next := range g.Behind(i) {
				if slices.Index(order, next) <= at {
					t.Fatalf("P7.2: %d is behind %d: %v", next, i, order)
				}
			}
		}
	}
}

// P7.2: rows, rings and combs of many thousand places, with room for few calls within calls.
func TestLong(t *testing.T) {
	defer debug.SetMaxStack(debug.SetMaxStack(1 << 20))
	const n = 100000
	row, back, ring, comb := New(n), New(n), New(n), New(n)
	var rising, falling []int
	for i := range n {
		rising = append(rising, i)
		falling = append(falling, (n-i)%n)
		row.Join(i, i+1)
		back.Join((n-i)%n, n-1-i)
		ring.Join(i, (i+1)%n)
		for j := range 3 {
			comb.Join(i, i+3-j)
		}
	}
	for name, c := range map[string]struct {
		g    Graph
		want []int
	}{"row": {row, rising}, "back": {back, falling}, "ring": {ring, rising}} {
		is(t, "P7.2: First: "+name, slices.Collect(c.g.First()), c.want)
		is(t, "P7.2: Order: "+name, c.g.Order(), c.want)
		if slices.Contains(c.g.Reached(), false) {
			t.Errorf("P7.2: Reached: %s", name)
		}
	}
	order := comb.Order()
	is(t, "P7.2: Order: comb", order, rising)
	met := slices.Collect(comb.First())
	is(t, "P7.2: First: comb", met[:4], []int{0, 3, 6, 9})
	slices.Sort(met)
	is(t, "P7.2: First: comb, all", met, rising)
}

// upTo: at most so many of what First tells.
func upTo(g func(func(int) bool), most int) []int {
	var l []int
	for i := range g {
		if len(l) == most {
			break
		}
		l = append(l, i)
	}
	return l
}

// P7.2: one may stop looking, and look again, within a look as well.
func TestStop(t *testing.T) {
	g := joined(6, [2]int{0, 4}, [2]int{0, 1}, [2]int{4, 2}, [2]int{2, 0}, [2]int{1, 3})
	want := []int{0, 4, 2, 1, 3}
	seq := g.First()
	for most := range len(want) + 2 {
		for range 2 {
			is(t, "P7.2: First, stopped", upTo(seq, most), want[:min(most, len(want))])
		}
	}
	for most := range len(want) {
		calls := 0
		seq(func(int) bool {
			calls++
			return calls <= most
		})
		if calls != most+1 {
			t.Errorf("P7.2: one stops at %d, and is called %d times", most+1, calls)
		}
	}
	var all []int
	for i := range seq {
		all = append(all, i)
		is(t, "P7.2: First within First", slices.Collect(seq), want)
		is(t, "P7.2: Order within First", g.Order(), []int{0, 1, 3, 4, 2})
	}
	is(t, "P7.2: First", all, want)
	seq(nil)
}

// P7.2: a graph may be changed behind First's call, and while it is looked at: what First tells is what was reached at its call.
func TestChangedMeanwhile(t *testing.T) {
	g := joined(6, [2]int{0, 1}, [2]int{1, 2})
	seq := g.First()
	g.Join(0, 5)
	is(t, "P7.2: First, changed behind the call", slices.Collect(seq), []int{0, 1, 2})
	is(t, "P7.2: First, called again", slices.Collect(g.First()), []int{0, 1, 2, 5})
	var l []int
	for i := range g.First() {
		l = append(l, i)
		for j := range 6 {
			g.Join(i, j)
			g.Join(j, i)
		}
	}
	is(t, "P7.2: First, changed meanwhile", l, []int{0, 1, 2, 5})
	// By then 3 and 4 are behind 0, 1, 2, 5; all of these are behind 3 and 4, in that order.
	is(t, "P7.2: First, changed", slices.Collect(g.First()), []int{0, 1, 2, 3, 5, 4})
}
