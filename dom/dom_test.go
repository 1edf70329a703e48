package dom

import (
	"fmt"
	"math"
	"runtime/debug"
	"slices"
	"testing"

	"refinery/graph"
	"refinery/ir"
	"refinery/parse"
)

// joined: a graph of n places, joined in the order of the pairs.
func joined(n int, pairs ...[2]int) graph.Graph {
	g := graph.New(n)
	for _, e := range pairs {
		g.Join(e[0], e[1])
	}
	return g
}

func is[T comparable](t *testing.T, what any, got, want []T) {
	t.Helper()
	if !slices.Equal(got, want) {
		t.Errorf("%v: %v, not %v", what, got, want)
	}
}

// ups: of each of n places its Up.
func ups(d Tree, n int) []int {
	var up []int
	for v := range n {
		up = append(up, d.Up(v))
	}
	return up
}

// outside: places that a graph of n has none of.
func outside(n int) []int {
	return []int{math.MinInt, math.MinInt + 1, -n - 1, -2, -1, n, n + 1, 2*n + 2, 1 << 32, math.MaxInt - 1, math.MaxInt}
}

// without: which places are reached from 0, if one is left out (-1: none).
func without(g graph.Graph, out int) []bool {
	reached := make([]bool, g.Len())
	if g.Len() == 0 || out == 0 {
		return reached
	}
	reached[0] = true
	for work := []int{0}; len(work) > 0; {
		v := work[0]
		work = work[1:]
		for _, next := range g.Behind(v) {
			if next != out && !reached[next] {
				reached[next] = true
				work = append(work, next)
			}
		}
	}
	return reached
}

// plain is what P8.1's words ask, by leaving each place out.
type plain struct {
	over [][]bool
	up   []int
	all  []int
}

func asked(g graph.Graph) plain {
	n := g.Len()
	p := plain{over: make([][]bool, n), up: make([]int, n)}
	reached := without(g, -1)
	for a := range n {
		left := without(g, a)
		p.over[a] = make([]bool, n)
		for b := range n {
			p.over[a][b] = reached[a] && reached[b] && (a == b || !left[b])
		}
	}
	for v := range n {
		p.up[v] = p.nearest(v)
	}
	if n > 0 {
		p.walk(0)
	}
	return p
}

// nearest: of those that are over v, but v, the one that all are over.
func (p plain) nearest(v int) int {
	for u := range p.over {
		if u == v || !p.over[u][v] {
			continue
		}
		all := true
		for w := range p.over {
			all = all && (w == v || !p.over[w][v] || p.over[w][u])
		}
		if all {
			return u
		}
	}
	return -1
}

func (p plain) below(v int) []int {
	var below []int
	for w, up := range p.up {
		if up == v {
			below = append(below, w)
		}
	}
	return below
}

func (p *plain) walk(v int) {
	p.all = append(p.all, v)
	for _, w := range p.below(v) {
		p.walk(w)
	}
}

// holds: does a graph's tree answer what the words ask?
func holds(t *testing.T, what any, g graph.Graph) {
	t.Helper()
	d, p := Of(g), asked(g)
	is(t, fmt.Sprint("P8.1: Up of ", what), ups(d, g.Len()), p.up)
	is(t, fmt.Sprint("P8.1: All of ", what), slices.Collect(d.All()), p.all)
	for a := range g.Len() {
		is(t, fmt.Sprint("P8.1: Below ", a, " of ", what), d.Below(a), p.below(a))
		for b := range g.Len() {
			if d.Over(a, b) != p.over[a][b] {
				t.Errorf("P8.1: Over(%d, %d) of %v: %v", a, b, what, d.Over(a, b))
			}
		}
	}
}

// P8.1: the chapter's example.
func TestExample(t *testing.T) {
	d := Of(joined(4, [2]int{0, 1}, [2]int{0, 2}, [2]int{1, 3}, [2]int{2, 3}))
	is(t, "P8.1: Up", ups(d, 4), []int{-1, 0, 0, 0})
	is(t, "P8.1: Below(0)", d.Below(0), []int{1, 2, 3})
	is(t, "P8.1: Below(1)", d.Below(1), nil)
	is(t, "P8.1: All", slices.Collect(d.All()), []int{0, 1, 2, 3})
	for a := range 4 {
		for b := range 4 {
			if d.Over(a, b) != (a == 0 || a == b) {
				t.Errorf("P8.1: Over(%d, %d): %v", a, b, d.Over(a, b))
			}
		}
	}
}

// P8.1: shapes with answers written out.
func TestShapes(t *testing.T) {
	for _, c := range []struct {
		name  string
		n     int
		pairs [][2]int
		up    []int
		all   []int
	}{
		{"one place", 1, nil, []int{-1}, []int{0}},
		{"one place that leads to itself", 1, [][2]int{{0, 0}}, []int{-1}, []int{0}},
		{"a row", 4, [][2]int{{0, 1}, {1, 2}, {2, 3}}, []int{-1, 0, 1, 2}, []int{0, 1, 2, 3}},
		{"a row the other way", 4, [][2]int{{0, 3}, {3, 2}, {2, 1}}, []int{-1, 2, 3, 0}, []int{0, 3, 2, 1}},
		{"a ring", 4, [][2]int{{0, 1}, {1, 2}, {2, 3}, {3, 0}}, []int{-1, 0, 1, 2}, []int{0, 1, 2, 3}},
		{"a tree", 7, [][2]int{{0, 5}, {0, 2}, {5, 6}, {5, 1}, {2, 4}, {2, 3}}, []int{-1, 5, 0, 2, 2, 0, 5}, []int{0, 2, 3, 4, 5, 1, 6}},
		{"all lead to themselves", 3, [][2]int{{0, 0}, {0, 1}, {1, 1}, {1, 2}, {2, 2}}, []int{-1, 0, 1}, []int{0, 1, 2}},
		{"ways that meet again, twice", 7, [][2]int{{0, 1}, {0, 2}, {1, 3}, {2, 3}, {3, 4}, {3, 5}, {4, 6}, {5, 6}}, []int{-1, 0, 0, 0, 3, 3, 3}, []int{0, 1, 2, 3, 4, 5, 6}},
		{"ways that meet within ways", 6, [][2]int{{0, 1}, {0, 5}, {1, 2}, {1, 3}, {2, 4}, {3, 4}, {4, 5}}, []int{-1, 0, 1, 1, 1, 0}, []int{0, 1, 2, 3, 4, 5}},
		{"a ring with two ways in", 3, [][2]int{{0, 1}, {0, 2}, {1, 2}, {2, 1}}, []int{-1, 0, 0}, []int{0, 1, 2}},
		{"a ring with two ways in, behind one place", 5, [][2]int{{0, 4}, {4, 1}, {4, 3}, {1, 2}, {2, 3}, {3, 1}}, []int{-1, 4, 1, 4, 0}, []int{0, 4, 1, 2, 3}},
		{"two rings that lead into each other", 6, [][2]int{{0, 1}, {0, 2}, {1, 3}, {2, 4}, {3, 4}, {4, 3}, {3, 5}, {4, 5}, {5, 5}}, []int{-1, 0, 0, 0, 0, 0}, []int{0, 1, 2, 3, 4, 5}},
		{"a loop with a way out", 5, [][2]int{{0, 1}, {1, 2}, {2, 3}, {3, 1}, {1, 4}}, []int{-1, 0, 1, 2, 1}, []int{0, 1, 2, 3, 4}},
		{"unreached ones ahead of reached ones", 6, [][2]int{{0, 1}, {1, 2}, {3, 2}, {4, 1}, {5, 0}, {3, 4}, {4, 3}, {5, 5}}, []int{-1, 0, 1, -1, -1, -1}, []int{0, 1, 2}},
		{"nothing joined", 3, nil, []int{-1, -1, -1}, []int{0}},
		{"0 has all ahead of it", 3, [][2]int{{1, 0}, {2, 0}, {1, 2}}, []int{-1, -1, -1}, []int{0}},
	} {
		g := joined(c.n, c.pairs...)
		d := Of(g)
		is(t, "P8.1: Up of "+c.name, ups(d, c.n), c.up)
		is(t, "P8.1: All of "+c.name, slices.Collect(d.All()), c.all)
		holds(t, c.name, g)
	}
}

// P8.1: Below rises, and All goes by it, however they were joined.
func TestOrder(t *testing.T) {
	g := joined(9, [2]int{0, 8}, [2]int{0, 3}, [2]int{0, 5}, [2]int{8, 2}, [2]int{8, 7}, [2]int{8, 1}, [2]int{3, 6}, [2]int{3, 4})
	d := Of(g)
	is(t, "P8.1: Below(0)", d.Below(0), []int{3, 5, 8})
	is(t, "P8.1: Below(8)", d.Below(8), []int{1, 2, 7})
	is(t, "P8.1: Below(3)", d.Below(3), []int{4, 6})
	is(t, "P8.1: All", slices.Collect(d.All()), []int{0, 3, 4, 6, 5, 8, 1, 2, 7})
}

// P8.1: a place that there isn't is over none, below none, and has none.
func TestNoPlace(t *testing.T) {
	for _, n := range []int{0, 1, 2, 5, 400} {
		g := graph.New(n)
		for v := range n {
			g.Join(v, (v+1)%n)
		}
		d := Of(g)
		for _, a := range outside(n) {
			if d.Up(a) != -1 || len(d.Below(a)) != 0 || d.Over(a, a) {
				t.Errorf("P8.1: of %d places, %d: Up %d, Below %v, over itself %v", n, a, d.Up(a), d.Below(a), d.Over(a, a))
			}
			for b := range n {
				if d.Over(a, b) || d.Over(b, a) {
					t.Errorf("P8.1: of %d places, Over(%d, %d) or Over(%d, %d)", n, a, b, b, a)
				}
			}
		}
	}
}

// P8.1: a place that isn't reached is over none, not even itself, nor is one over it; and it has none.
func TestUnreached(t *testing.T) {
	d := Of(joined(6, [2]int{0, 1}, [2]int{1, 2}, [2]int{3, 4}, [2]int{4, 3}, [2]int{3, 2}, [2]int{5, 5}, [2]int{4, 0}))
	for _, v := range []int{3, 4, 5} {
		if d.Up(v) != -1 || len(d.Below(v)) != 0 {
			t.Errorf("P8.1: %d isn't reached: Up %d, Below %v", v, d.Up(v), d.Below(v))
		}
		for b := range 6 {
			if d.Over(v, b) || d.Over(b, v) {
				t.Errorf("P8.1: Over of %d and %d", v, b)
			}
		}
	}
	is(t, "P8.1: Below(-1)", d.Below(-1), nil)
	is(t, "P8.1: All", slices.Collect(d.All()), []int{0, 1, 2})
}

// R7: a zero tree does what one of a graph of no place does.
func TestZero(t *testing.T) {
	var zero Tree
	var none graph.Graph
	for i, d := range []Tree{zero, {}, Of(none), Of(graph.New(0)), Of(graph.New(-3))} {
		for _, a := range append(outside(0), 0, 1) {
			if d.Up(a) != -1 || len(d.Below(a)) != 0 || d.Over(a, a) || d.Over(a, 0) || d.Over(0, a) {
				t.Errorf("R7: tree %d of nothing, place %d: Up %d, Below %v", i, a, d.Up(a), d.Below(a))
			}
		}
		for v := range d.All() {
			t.Errorf("R7: tree %d of nothing has %d", i, v)
		}
		d.All()(nil)
	}
}

// P8.1: all graphs of up to four places.
func TestSmall(t *testing.T) {
	for n := range 5 {
		for bits := range 1 << (n * n) {
			g := graph.New(n)
			for e := range n * n {
				if bits>>e&1 == 1 {
					g.Join(e/n, e%n)
				}
			}
			holds(t, fmt.Sprintf("%d places, joined as %b", n, bits), g)
			if t.Failed() {
				return
			}
		}
	}
}

// dice: a row of numbers that is the same each time.
func dice(seed uint64) func(n int) int {
	return func(n int) int {
		seed = seed*6364136223846793005 + 1442695040888963407
		return int(seed>>33) % n
	}
}

// P8.1: graphs of all kinds, few and many joins.
func TestAny(t *testing.T) {
	for seed := range 3000 {
		roll := dice(uint64(seed) + 7)
		n := 1 + roll(24)
		g := graph.New(n)
		for range roll(3*n) + roll(n+1) {
			a := roll(n)
			if roll(3) == 0 {
				g.Join(a, roll(n))
			} else {
				g.Join(a, min(max(a+roll(7)-2, 0), n-1))
			}
		}
		holds(t, fmt.Sprint("any graph, ", seed), g)
		if t.Failed() {
			return
		}
	}
}

// P8.1: a graph of as many places as programs may have blocks.
func TestMany(t *testing.T) {
	for seed := range 3 {
		roll := dice(uint64(seed) + 99)
		g := graph.New(400)
		for v := range 400 {
			g.Join(v, min(v+1+roll(3), 399))
			g.Join(v, roll(400))
		}
		holds(t, fmt.Sprint("400 places, ", seed), g)
	}
}

// P1: rows, rings and ladders of many places take neither much stack nor long.
func TestDeep(t *testing.T) {
	defer debug.SetMaxStack(debug.SetMaxStack(1 << 20))
	const n = 100000
	row, ring, back, fan, stairs := graph.New(n), graph.New(n), graph.New(n), graph.New(n), graph.New(n)
	for v := range n - 1 {
		row.Join(v, v+1)
		ring.Join(v, v+1)
		back.Join(n-1-v, max(n-2-v, 1))
		fan.Join(0, n-1-v)
		stairs.Join(v, v+1)
		stairs.Join(v, min(v+2, n-1))
	}
	ring.Join(n-1, 0)
	back.Join(0, n-1)
	for name, g := range map[string]graph.Graph{"row": row, "ring": ring} {
		d, next := Of(g), 0
		for v := range d.All() {
			if v != next || d.Up(v) != v-1 || !d.Over(0, v) || !d.Over(v, n-1) || v > 0 && d.Over(v, v-1) {
				t.Fatalf("P8.1: %s at %d: %d, Up %d", name, next, v, d.Up(v))
			}
			next++
		}
		if next != n {
			t.Errorf("P8.1: %s: %d places", name, next)
		}
	}
	if d := Of(back); d.Up(1) != 2 || d.Up(n-1) != 0 || !d.Over(n/2, 1) || d.Over(1, n/2) {
		t.Error("P8.1: a row the other way")
	}
	if d := Of(fan); len(d.Below(0)) != n-1 || !slices.IsSorted(d.Below(0)) || d.Over(1, 2) {
		t.Error("P8.1: all behind one")
	}
	if d := Of(stairs); d.Up(1) != 0 || d.Up(2) != 0 || d.Up(n-1) != 0 || d.Over(n/2, n-1) {
		t.Errorf("P8.1: stairs: %d, %d", d.Up(2), d.Up(n-1))
	}
}

// P1: a ladder whose steps lead both ways, with ways in at both ends, is done, too: nobody but 0 is over another one.
func TestBothWays(t *testing.T) {
	const n = 60000
	g := graph.New(n)
	for v := 1; v < n-1; v++ {
		g.Join(v, v+1)
		g.Join(v+1, v)
	}
	g.Join(0, n-1)
	g.Join(0, 1)
	d := Of(g)
	for v := 1; v < n; v++ {
		if d.Up(v) != 0 {
			t.Fatalf("P8.1: Up(%d): %d", v, d.Up(v))
		}
	}
	if len(d.Below(0)) != n-1 {
		t.Errorf("P8.1: Below(0): %d", len(d.Below(0)))
	}
}

// P1: graphs of more places than there is room for.
func TestHuge(t *testing.T) {
	for _, n := range []int{1 << 31, 1 << 40, math.MaxInt - 1, math.MaxInt} {
		d := Of(joined(n, [2]int{0, n - 1}, [2]int{0, n / 2}, [2]int{n / 2, n - 1}, [2]int{n - 1, 7}, [2]int{5, 7}))
		is(t, "P8.1: All", slices.Collect(d.All()), []int{0, n / 2, n - 1, 7})
		is(t, "P8.1: Below(0)", d.Below(0), []int{n / 2, n - 1})
		if d.Up(7) != n-1 || d.Up(5) != -1 || d.Up(n-1) != 0 || d.Up(n) != -1 || !d.Over(n-1, 7) || d.Over(n/2, 7) || d.Over(5, 5) {
			t.Errorf("P8.1: of %d places", n)
		}
	}
}

// P8.1: one may stop looking at All at each place, and look again; two may look at once.
func TestStop(t *testing.T) {
	d := Of(joined(6, [2]int{0, 4}, [2]int{0, 2}, [2]int{2, 3}, [2]int{4, 1}, [2]int{4, 5}))
	all := []int{0, 2, 3, 4, 1, 5}
	look := d.All()
	for stop := range all {
		var seen []int
		for v := range look {
			seen = append(seen, v)
			if len(seen) == stop+1 {
				break
			}
		}
		is(t, "P8.1: All, stopped", seen, all[:stop+1])
		is(t, "P8.1: All again", slices.Collect(look), all)
	}
	for range look {
		is(t, "P8.1: All within All", slices.Collect(look), all)
	}
	look(nil)
	d.All()(nil)
}

// P8.1, R6: a tree is a graph's at Of's call: the graph may be changed behind it.
func TestChanged(t *testing.T) {
	g := joined(5, [2]int{0, 1}, [2]int{1, 2}, [2]int{2, 3})
	d := Of(g)
	look := d.All()
	for v := range look {
		g.Join(0, 3)
		g.Join(3, 4)
		g.Join(4, v)
		d.Up(v)
		d.Below(v)
	}
	is(t, "P8.1: Up", ups(d, 5), []int{-1, 0, 1, 2, -1})
	is(t, "P8.1: All", slices.Collect(look), []int{0, 1, 2, 3})
	if d.Over(4, 4) || !d.Over(1, 3) || d.Over(4, 1) {
		t.Error("P8.1: Over of a graph that is changed")
	}
	is(t, "P8.1: Up, asked anew", ups(Of(g), 5), []int{-1, 0, 0, 0, 3})
}

// R6: what is answered is new memory, and the graph is as it was.
func TestNewMemory(t *testing.T) {
	pairs := [][2]int{{0, 3}, {0, 1}, {1, 2}, {3, 2}, {2, 4}, {2, 5}, {4, 0}}
	g, h := joined(7, pairs...), joined(7, pairs...)
	d := Of(g)
	for range 2 {
		for v := range 7 {
			l := d.Below(v)
			for i := range l {
				l[i] = 6
			}
			_ = append(l, 6, 6, 6)
		}
	}
	is(t, "R6: Below(0)", d.Below(0), []int{1, 2, 3})
	is(t, "R6: Below(2)", d.Below(2), []int{4, 5})
	is(t, "R6: All", slices.Collect(d.All()), []int{0, 1, 2, 4, 5, 3})
	is(t, "R6: Up", ups(d, 7), []int{-1, 0, 0, 0, 2, 2, -1})
	for v := range 7 {
		is(t, "R6: Behind", g.Behind(v), h.Behind(v))
		is(t, "R6: Ahead", g.Ahead(v), h.Ahead(v))
	}
}

// R8: one graph, joined in another order, has the same tree; and each time the same.
func TestSameAnswer(t *testing.T) {
	pairs := [][2]int{{0, 3}, {0, 1}, {1, 2}, {3, 2}, {2, 4}, {2, 5}, {4, 0}, {5, 3}, {6, 5}}
	want := slices.Collect(Of(joined(7, pairs...)).All())
	for turn := range pairs {
		turned := append(slices.Clone(pairs[turn:]), pairs[:turn]...)
		d := Of(joined(7, turned...))
		is(t, "R8: All", slices.Collect(d.All()), want)
		is(t, "R8: Up", ups(d, 7), []int{-1, 0, 0, 0, 2, 2, -1})
	}
}

// P8.1: of a program's blocks.
func TestProgram(t *testing.T) {
	p, _, err := parse.Parse("@7:\n  %1 = in\n  br %1, @3, @5\n@5:\n  jump @9\n@3:\n  jump @9\n@9:\n  br %1, @9, @2\n@2:\n  ret %1\n@4:\n  jump @2\n")
	if err != 0 {
		t.Fatal(err)
	}
	d := Of(graph.Of(p))
	is(t, "P8.1: Up", ups(d, 6), []int{-1, 0, 0, 0, 3, -1})
	if n := len(slices.Collect(Of(graph.Of(ir.Program{})).All())); n != 0 {
		t.Errorf("P8.1: of no block: %d", n)
	}
}
