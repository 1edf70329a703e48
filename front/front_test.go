package front

import (
	"fmt"
	"math"
	"runtime/debug"
	"slices"
	"testing"

	"refinery/api"
	"refinery/bag"
	"refinery/dom"
	"refinery/graph"
	"refinery/parse"
)

// joined: a graph of n places, joined in the order of the pairs.
func joined(n int, pairs ...[2]int) graph.Graph {
	g := graph.New(n)
	for _, e := range pairs {
		g.Join(e[0], e[1])
	}
	return g
}

// of: a graph's fronts.
func of(g graph.Graph) []bag.Set[int] { return Of(g, dom.Of(g)) }

func lists(sets []bag.Set[int]) [][]int {
	l := make([][]int, len(sets))
	for i, s := range sets {
		l[i] = s.List()
	}
	return l
}

// is: are fronts these?
func is(t *testing.T, what any, got []bag.Set[int], want [][]int) {
	t.Helper()
	if !slices.EqualFunc(lists(got), want, slices.Equal) {
		t.Errorf("%v: %v, not %v", what, lists(got), want)
	}
}

// has: is a set of these alone?
func has(t *testing.T, what any, got bag.Set[int], want ...int) {
	t.Helper()
	if !slices.Equal(got.List(), want) {
		t.Errorf("%v: %v, not %v", what, got.List(), want)
	}
}

// asked: fronts by P9.1's own words.
func asked(g graph.Graph, d dom.Tree) [][]int {
	fronts := make([][]int, g.Len())
	for r := range fronts {
		for v := range fronts {
			over := func(u int) bool { return d.Over(r, u) }
			if slices.ContainsFunc(g.Ahead(v), over) && (!over(v) || r == v) {
				fronts[r] = append(fronts[r], v)
			}
		}
	}
	return fronts
}

func holds(t *testing.T, what any, g graph.Graph) {
	t.Helper()
	d := dom.Of(g)
	is(t, fmt.Sprint("P9.1: ", what), Of(g, d), asked(g, d))
}

// askedAll: All by P9.1's own words: as long as one is missing, it is put in.
func askedAll(fronts []bag.Set[int], from bag.Set[int]) []int {
	in := map[int]bool{}
	for more := true; more; {
		more = false
		for r, front := range fronts {
			if !in[r] && !from.Has(r) {
				continue
			}
			for _, v := range front.List() {
				more = more || !in[v]
				in[v] = true
			}
		}
	}
	var all []int
	for v := range in {
		all = append(all, v)
	}
	slices.Sort(all)
	return all
}

// dice: a row of numbers that is the same each time.
func dice(seed uint64) func(n int) int {
	return func(n int) int {
		seed = seed*6364136223846793005 + 1442695040888963407
		return int(seed>>33) % n
	}
}

// outside: places that a list of n has none of.
func outside(n int) []int {
	return []int{math.MinInt, math.MinInt + 1, -n - 1, -2, -1, n, n + 1, 2*n + 2, 1 << 32, math.MaxInt - 1, math.MaxInt}
}

// P9.1: the chapter's example.
func TestExample(t *testing.T) {
	f := of(joined(4, [2]int{0, 1}, [2]int{0, 2}, [2]int{1, 3}, [2]int{2, 3}))
	is(t, "P9.1: Of", f, [][]int{{}, {3}, {3}, {}})
	has(t, "P9.1: All of 1", All(f, bag.Of(1)), 3)
}

// P9.1: shapes with answers written out.
func TestShapes(t *testing.T) {
	for _, c := range []struct {
		name  string
		n     int
		pairs [][2]int
		want  [][]int
	}{
		{"no place", 0, nil, nil},
		{"one place", 1, nil, [][]int{{}}},
		{"one place that leads to itself", 1, [][2]int{{0, 0}}, [][]int{{0}}},
		{"nothing joined", 3, nil, [][]int{{}, {}, {}}},
		{"a row", 4, [][2]int{{0, 1}, {1, 2}, {2, 3}}, [][]int{{}, {}, {}, {}}},
		{"a row the other way", 4, [][2]int{{0, 3}, {3, 2}, {2, 1}}, [][]int{{}, {}, {}, {}}},
		{"a tree", 7, [][2]int{{0, 5}, {0, 2}, {5, 6}, {5, 1}, {2, 4}, {2, 3}}, make([][]int, 7)},
		{"a ring", 4, [][2]int{{0, 1}, {1, 2}, {2, 3}, {3, 0}}, [][]int{{0}, {0}, {0}, {0}}},
		{"a ring the other way", 4, [][2]int{{0, 3}, {3, 2}, {2, 1}, {1, 0}}, [][]int{{0}, {0}, {0}, {0}}},
		{"the first place is gone back to from the middle", 4, [][2]int{{0, 1}, {1, 2}, {2, 3}, {1, 0}}, [][]int{{0}, {0}, {}, {}}},
		{"a place that leads to itself", 3, [][2]int{{0, 1}, {1, 1}, {1, 2}}, [][]int{{}, {1}, {}}},
		{"all lead to themselves", 3, [][2]int{{0, 0}, {0, 1}, {1, 1}, {1, 2}, {2, 2}}, [][]int{{0}, {1}, {2}}},
		{"a way past a place", 3, [][2]int{{0, 1}, {0, 2}, {1, 2}}, [][]int{{}, {2}, {}}},
		{"ways that meet again, twice", 7, [][2]int{{0, 1}, {0, 2}, {1, 3}, {2, 3}, {3, 4}, {3, 5}, {4, 6}, {5, 6}}, [][]int{{}, {3}, {3}, {}, {6}, {6}, {}}},
		{"ways that meet within ways", 6, [][2]int{{0, 1}, {0, 5}, {1, 2}, {1, 3}, {2, 4}, {3, 4}, {4, 5}}, [][]int{{}, {5}, {4}, {4}, {5}, {}}},
		{"a loop with a way out", 5, [][2]int{{0, 1}, {1, 2}, {2, 3}, {3, 1}, {1, 4}}, [][]int{{}, {1}, {1}, {1}, {}}},
		{"a loop in a loop", 6, [][2]int{{0, 1}, {1, 2}, {2, 3}, {3, 2}, {3, 4}, {4, 1}, {4, 5}}, [][]int{{}, {1}, {1, 2}, {1, 2}, {1}, {}}},
		{"a ring with two ways in", 3, [][2]int{{0, 1}, {0, 2}, {1, 2}, {2, 1}}, [][]int{{}, {2}, {1}}},
		{"a ring with two ways in, behind one place", 5, [][2]int{{0, 4}, {4, 1}, {4, 3}, {1, 2}, {2, 3}, {3, 1}}, [][]int{{}, {3}, {3}, {1}, {}}},
		{"a ring with three ways in", 4, [][2]int{{0, 1}, {0, 2}, {0, 3}, {1, 2}, {2, 3}, {3, 1}}, [][]int{{}, {2}, {3}, {1}}},
		{"one with two in its front", 5, [][2]int{{0, 1}, {0, 3}, {0, 4}, {1, 2}, {1, 4}, {2, 3}}, [][]int{{}, {3, 4}, {3}, {}, {}}},
		{"unreached ones ahead of a row", 6, [][2]int{{0, 1}, {1, 2}, {3, 2}, {4, 1}, {5, 0}, {3, 4}, {4, 3}, {5, 5}}, make([][]int, 6)},
		{"unreached ones ahead of ways that meet", 6, [][2]int{{0, 1}, {0, 2}, {1, 3}, {2, 3}, {4, 3}, {5, 4}, {4, 5}, {5, 1}, {5, 0}}, [][]int{{}, {3}, {3}, {}, {}, {}}},
		{"an unreached one ahead of a ring", 4, [][2]int{{0, 1}, {1, 0}, {2, 0}, {2, 1}, {2, 2}, {3, 2}}, [][]int{{0}, {0}, {}, {}}},
		{"0 has all ahead of it", 3, [][2]int{{1, 0}, {2, 0}, {1, 2}}, [][]int{{}, {}, {}}},
	} {
		g := joined(c.n, c.pairs...)
		is(t, "P9.1: "+c.name, of(g), c.want)
		holds(t, c.name, g)
	}
}

// P9.1: fronts of a program's blocks.
func TestProgram(t *testing.T) {
	p, _, err := parse.Parse("@7:\n  %1 = in\n  jump @3\n@3:\n  br %1, @9, @4\n@9:\n  br %1, @5, @6\n@5:\n  jump @8\n@6:\n  jump @8\n@8:\n  jump @3\n@4:\n  ret %1\n")
	if err != api.OK {
		t.Fatal(err)
	}
	f := of(graph.Of(p))
	is(t, "P9.1: of a program", f, [][]int{{}, {1}, {1}, {5}, {5}, {1}, {}})
	has(t, "P9.1: All of a program's", All(f, bag.Of(3)), 1, 5)
}

// P9.1: all graphs of up to four places, and one set for each place.
func TestSmall(t *testing.T) {
	for n := range 5 {
		for bits := range 1 << (n * n) {
			g := graph.New(n)
			for e := range n * n {
				if bits>>e&1 == 1 {
					g.Join(e/n, e%n)
				}
			}
			holds(t, fmt.Sprintf("%d places, joined as %b", n, bits), g)
			if t.Failed() {
				return
			}
		}
	}
}

// P9.1: graphs of all kinds, few and many joins, and All of some of their places.
func TestAny(t *testing.T) {
	for seed := range 3000 {
		roll := dice(uint64(seed) + 7)
		n := 1 + roll(24)
		g := graph.New(n)
		for range roll(3*n) + roll(n+1) {
			a := roll(n)
			if roll(3) == 0 {
				g.Join(a, roll(n))
			} else {
				g.Join(a, min(max(a+roll(7)-2, 0), n-1))
			}
		}
		holds(t, fmt.Sprint("any graph, ", seed), g)
		var from bag.Set[int]
		for range roll(4) {
			from.Add(roll(n))
		}
		f := of(g)
		has(t, fmt.Sprint("P9.1: All of ", from.List(), ", any graph, ", seed), All(f, from), askedAll(f, from)...)
		if t.Failed() {
			return
		}
	}
}

// P9.1: graphs of as many places as programs may have blocks.
func TestMany(t *testing.T) {
	for seed := range 3 {
		roll := dice(uint64(seed) + 99)
		g := graph.New(400)
		for v := range 400 {
			g.Join(v, min(v+1+roll(3), 399))
			g.Join(v, max(v-roll(40), 0))
		}
		holds(t, fmt.Sprint("400 places, ", seed), g)
	}
}

// P9.1: All of no place, of one, of several.
func TestAll(t *testing.T) {
	f := []bag.Set[int]{bag.Of[int](), bag.Of(4), bag.Of(5, 6), bag.Of(0), bag.Of[int](), bag.Of(6), bag.Of[int]()}
	has(t, "P9.1: All of none", All(f, bag.Of[int]()))
	has(t, "P9.1: All of one without a front", All(f, bag.Of(0)))
	has(t, "P9.1: All of one", All(f, bag.Of(1)), 4)
	has(t, "P9.1: All of one whose front has one", All(f, bag.Of(2)), 5, 6)
	has(t, "P9.1: All of several", All(f, bag.Of(3, 1, 2)), 0, 4, 5, 6)
	has(t, "P9.1: All of several, some without", All(f, bag.Of(6, 4, 3, 0)), 0)
	has(t, "P9.1: All of all", All(f, bag.Of(0, 1, 2, 3, 4, 5, 6)), 0, 4, 5, 6)
}

// P9.1: All, where fronts have fronts, again and again; what is in from isn't in All for that.
func TestAllAgain(t *testing.T) {
	row := []bag.Set[int]{bag.Of(3), bag.Of(4), bag.Of(1), bag.Of(2), bag.Of(5), bag.Of[int]()}
	has(t, "P9.1: All of a row's first", All(row, bag.Of(0)), 1, 2, 3, 4, 5)
	has(t, "P9.1: All of a row's middle", All(row, bag.Of(1)), 4, 5)
	has(t, "P9.1: All of a row's last", All(row, bag.Of(5)))
	has(t, "P9.1: All of two of a row", All(row, bag.Of(3, 4)), 1, 2, 4, 5)
	ring := []bag.Set[int]{bag.Of(2), bag.Of(0), bag.Of(1), bag.Of(3), bag.Of(3, 0)}
	has(t, "P9.1: All of a ring's", All(ring, bag.Of(1)), 0, 1, 2)
	has(t, "P9.1: All of one's own front", All(ring, bag.Of(3)), 3)
	has(t, "P9.1: All of one ahead of both", All(ring, bag.Of(4)), 0, 1, 2, 3)
	has(t, "P9.1: All of both", All(ring, bag.Of(2, 3)), 0, 1, 2, 3)
	rings := of(joined(5, [2]int{0, 1}, [2]int{0, 2}, [2]int{1, 3}, [2]int{2, 3}, [2]int{3, 1}))
	has(t, "P9.1: All of a graph's", All(rings, bag.Of(2)), 1, 3)
	has(t, "P9.1: All of a graph's first", All(rings, bag.Of(0)))
}

// P9.1: All of any fronts, also of those that no graph has.
func TestAllAny(t *testing.T) {
	for seed := range 5000 {
		roll := dice(uint64(seed) + 41)
		n := 1 + roll(12)
		f := make([]bag.Set[int], n)
		for range roll(2 * n) {
			f[roll(n)].Add(roll(n+4) - 2)
		}
		var from bag.Set[int]
		for range roll(5) {
			from.Add(roll(n+4) - 2)
		}
		has(t, fmt.Sprint("P9.1: All of ", lists(f), ", ", from.List()), All(f, from), askedAll(f, from)...)
		if t.Failed() {
			return
		}
	}
}

// P9.1, P1: a place that there is no front of has none, but may be in one.
func TestAllOutside(t *testing.T) {
	for _, n := range []int{0, 1, 2, 5} {
		f := make([]bag.Set[int], n)
		for i := range f {
			f[i].Add((i + 1) % n)
		}
		var ring []int
		for i := range n {
			ring = append(ring, i)
		}
		has(t, "P9.1: All from places that there aren't", All(f, bag.Of(outside(n)...)))
		has(t, "P9.1: All from those, and from one", All(f, bag.Of(append(outside(n), 0)...)), ring...)
		for _, v := range outside(n) {
			has(t, fmt.Sprint("P9.1: All from ", v, ", of ", n), All(f, bag.Of(v)))
			if n == 0 {
				continue
			}
			wrong := slices.Clone(f)
			wrong[n-1] = bag.Of(v, 0)
			has(t, fmt.Sprint("P9.1: All of fronts with ", v, ", of ", n), All(wrong, bag.Of(0)), bag.Of(append(ring, v)...).List()...)
			wrong[n-1] = bag.Of(v)
			has(t, fmt.Sprint("P9.1: All of fronts that end at ", v, ", of ", n), All(wrong, bag.Of(n-1)), v)
		}
	}
}

// R7: zero graphs, zero trees, zero sets, no fronts.
func TestZero(t *testing.T) {
	var g graph.Graph
	var d dom.Tree
	var s bag.Set[int]
	ring := joined(3, [2]int{0, 1}, [2]int{1, 2}, [2]int{2, 0})
	is(t, "R7: zero graph, zero tree", Of(g, d), nil)
	is(t, "R7: zero graph, its tree", Of(g, dom.Of(g)), nil)
	is(t, "R7: no places", of(graph.New(-1)), nil)
	if f := Of(g, dom.Of(ring)); len(f) != 0 {
		t.Errorf("R7: zero graph, another one's tree: %v", lists(f))
	}
	if f := Of(ring, d); len(f) != 3 {
		t.Errorf("R7: zero tree: %v", lists(f))
	}
	has(t, "R7: nothing", All(nil, s))
	has(t, "R7: no fronts", All(nil, bag.Of(0, 1)))
	has(t, "R7: no fronts", All([]bag.Set[int]{}, bag.Of(0, 1)))
	has(t, "R7: zero set", All(of(ring), s))
	has(t, "R7: zero fronts", All(make([]bag.Set[int], 2), bag.Of(0, 1)))
	has(t, "R7: a zero front", All([]bag.Set[int]{s, bag.Of(0)}, bag.Of(1)), 0)
}

// P1: a tree that isn't the graph's: some answer, and one set for each place.
func TestOtherTree(t *testing.T) {
	row, ring, back := graph.New(40), graph.New(7), graph.New(40)
	for v := range 39 {
		row.Join(v, v+1)
		ring.Join(v%7, (v+1)%7)
		back.Join(39-v, max(38-v, 1))
	}
	back.Join(0, 39)
	graphs := []graph.Graph{row, ring, back, graph.New(0), graph.New(1), graph.New(9), joined(math.MaxInt, [2]int{0, math.MaxInt - 1}, [2]int{math.MaxInt - 1, 3})}
	for seed := range 60 {
		roll := dice(uint64(seed) + 5)
		n := 1 + roll(30)
		g := graph.New(n)
		for range 2 * n {
			g.Join(roll(n), roll(n))
		}
		graphs = append(graphs, g)
	}
	for i, g := range graphs {
		for j, h := range graphs {
			if f := Of(g, dom.Of(h)); g.Len() != math.MaxInt && len(f) != g.Len() {
				t.Errorf("P1: graph %d with tree %d: %d sets, not %d", i, j, len(f), g.Len())
			}
		}
	}
}

// P1: graphs of more places than there is room for a set each: some answer.
func TestHuge(t *testing.T) {
	for _, n := range []int{1 << 31, 1 << 40, math.MaxInt - 1, math.MaxInt} {
		g := joined(n, [2]int{0, n - 1}, [2]int{0, n / 2}, [2]int{n / 2, n - 1}, [2]int{n - 1, 0})
		has(t, "P1: All of a huge graph's", All(of(g), bag.Of[int]()))
	}
	const n = 1 << 22
	f := of(joined(n, [2]int{0, n - 1}, [2]int{0, n / 2}, [2]int{n / 2, n - 1}, [2]int{5, n - 1}))
	if len(f) != n || f[n-1].Len() != 0 || f[5].Len() != 0 {
		t.Errorf("P9.1: of %d places: %d sets", n, len(f))
	}
	has(t, "P9.1: of many places", f[n/2], n-1)
}

// P1: rows and rings of many places take neither much stack nor long.
func TestDeep(t *testing.T) {
	defer debug.SetMaxStack(debug.SetMaxStack(1 << 20))
	const n = 100000
	row, ring, back, stairs := graph.New(n), graph.New(n), graph.New(n), graph.New(n)
	for v := range n - 1 {
		row.Join(v, v+1)
		ring.Join(v, v+1)
		back.Join(v, v+1)
		back.Join(v, 0)
		stairs.Join(v, v+1)
		stairs.Join(v, min(v+2, n-1))
	}
	ring.Join(n-1, 0)
	fronts := map[string][]bag.Set[int]{"row": of(row), "ring": of(ring), "back": of(back), "stairs": of(stairs)}
	for name, f := range fronts {
		if len(f) != n {
			t.Fatalf("P9.1: %s: %d sets", name, len(f))
		}
	}
	for v := range n {
		has(t, "P9.1: row", fronts["row"][v])
		has(t, "P9.1: ring", fronts["ring"][v], 0)
		if v < n-1 {
			has(t, "P9.1: back", fronts["back"][v], 0)
		}
		if v > 0 && v < n-2 {
			has(t, "P9.1: stairs", fronts["stairs"][v], v+1, v+2)
		}
		if t.Failed() {
			return
		}
	}
	if all := All(fronts["stairs"], bag.Of(1)); all.Len() != n-2 {
		t.Errorf("P9.1: All of the stairs' first: %d", all.Len())
	}
}

// P1: loops in loops, where fronts have many places each.
func TestNested(t *testing.T) {
	const n = 1000
	g := graph.New(2 * n)
	for v := range 2*n - 1 {
		g.Join(v, v+1)
	}
	for k := range n {
		g.Join(n+k, n-1-k)
	}
	f := of(g)
	// Each is in the loops whose heads aren't behind it, and whose last ones aren't ahead of it.
	for v := range 2 * n {
		heads := min(v, 2*n-1-v) + 1
		if f[v].Len() != heads || !f[v].Has(0) || !f[v].Has(heads-1) {
			t.Fatalf("P9.1: loops in loops, at %d: %v", v, f[v].List())
		}
	}
	if all := All(f, bag.Of(2*n-1)); all.Len() != 1 {
		t.Errorf("P9.1: All of the last: %v", all.List())
	}
	if all := All(f, bag.Of(n)); all.Len() != n {
		t.Errorf("P9.1: All of the middle: %d", all.Len())
	}
}

// P1: All of long rows of fronts, rising and falling, and of a long ring.
func TestAllDeep(t *testing.T) {
	defer debug.SetMaxStack(debug.SetMaxStack(1 << 20))
	const n = 200000
	rising, falling, ring := make([]bag.Set[int], n), make([]bag.Set[int], n), make([]bag.Set[int], n)
	for v := range n {
		rising[v].Add(v + 1)
		falling[v].Add(v - 1)
		ring[v].Add((v + 7) % n)
	}
	for name, c := range map[string]struct {
		fronts []bag.Set[int]
		from   int
	}{"rising": {rising, 0}, "falling": {falling, n - 1}, "ring": {ring, n / 2}} {
		if all := All(c.fronts, bag.Of(c.from)); all.Len() != n {
			t.Errorf("P9.1: All of fronts, %s: %d", name, all.Len())
		}
	}
}

// sample is a graph in which several fronts are the same, and some have two.
func sample() graph.Graph {
	return joined(7, [2]int{0, 1}, [2]int{1, 2}, [2]int{2, 3}, [2]int{3, 2}, [2]int{3, 4}, [2]int{4, 1}, [2]int{4, 5}, [2]int{6, 1})
}

// R6: what Of answers is new memory, no two sets of it share any, and the graph and the tree are as they were.
func TestOfNewMemory(t *testing.T) {
	g, want := sample(), [][]int{{}, {1}, {1, 2}, {1, 2}, {1}, {}, {}}
	d := dom.Of(g)
	f, other := Of(g, d), Of(g, d)
	for i := range f {
		f[i].Add(-1)
		f[i].Drop(1)
		f[i].Add(9)
		f[i].Add(10)
		has(t, "R6: a set that was changed", f[i], append(append([]int{-1}, slices.DeleteFunc(slices.Clone(want[i]), func(v int) bool { return v == 1 })...), 9, 10)...)
		for j := i + 1; j < len(f); j++ {
			has(t, fmt.Sprint("R6: set ", j, ", when ", i, " was changed"), f[j], want[j]...)
		}
	}
	f[0] = bag.Of(5)
	is(t, "R6: another answer", other, want)
	is(t, "R6: asked again", Of(g, d), want)
	h := sample()
	for v := range 7 {
		if !slices.Equal(g.Behind(v), h.Behind(v)) || !slices.Equal(g.Ahead(v), h.Ahead(v)) || d.Up(v) != dom.Of(h).Up(v) {
			t.Errorf("R6: the graph or the tree was changed at %d", v)
		}
	}
	g.Join(0, 3)
	g.Join(5, 0)
	is(t, "R6: the graph was changed behind Of", other, want)
}

// R6: what All answers is new memory.
func TestAllNewMemory(t *testing.T) {
	f, from := []bag.Set[int]{bag.Of(1, 2), bag.Of(2), bag.Of(1, 2)}, bag.Of(1, 2)
	for range 2 {
		for _, start := range []bag.Set[int]{from, bag.Of(0), bag.Of(1), bag.Of(2)} {
			a, b := All(f, start), All(f, start)
			a.Drop(1)
			a.Add(0)
			a.Add(7)
			a.Drop(2)
			has(t, "R6: another answer", b, 1, 2)
		}
	}
	is(t, "R6: fronts, when answers were changed", f, [][]int{{1, 2}, {2}, {1, 2}})
	has(t, "R6: from, when answers were changed", from, 1, 2)
	a := All(f, from)
	f[0].Drop(1)
	f[1].Add(8)
	f[2].Drop(2)
	from.Drop(1)
	has(t, "R6: an answer, when fronts and from were changed", a, 1, 2)
}

// spare: a set with spare room that isn't empty, and one that shares its memory and sees that room.
func spare(l ...int) (set, whole bag.Set[int]) {
	set = bag.Of(append(l, math.MaxInt)...)
	set.Drop(math.MaxInt)
	whole = set
	whole.Add(math.MaxInt)
	return set, whole
}

// R6: what is handed to All is as it was, spare room included.
func TestAllHandedIn(t *testing.T) {
	from, wholeFrom := spare(0, 2)
	front, wholeFront := spare(1, 3)
	long := []bag.Set[int]{front, bag.Of(2), front, bag.Of(0), bag.Of(9), bag.Of(11)}
	before, beforeFrom, beforeFront := lists(long), wholeFrom.List(), wholeFront.List()
	has(t, "P9.1: All", All(long[:4], from), 0, 1, 2, 3)
	has(t, "P9.1: All", All(long[:4], wholeFrom), 0, 1, 2, 3)
	has(t, "P9.1: All", All(long[:4], front), 0, 1, 2, 3)
	is(t, "R6: fronts, and behind them", long, before)
	has(t, "R6: from", from, 0, 2)
	has(t, "R6: from's spare room", wholeFrom, beforeFrom...)
	has(t, "R6: a front's spare room", wholeFront, beforeFront...)
}

// R8: one graph, joined in another order, has the same fronts; and each time the same.
func TestSameEachTime(t *testing.T) {
	pairs := [][2]int{{0, 1}, {0, 2}, {1, 3}, {2, 3}, {3, 1}, {3, 4}, {4, 0}, {2, 5}, {4, 5}, {5, 5}, {6, 3}}
	want := lists(of(joined(7, pairs...)))
	for seed := range 50 {
		roll := dice(uint64(seed))
		for i := range pairs {
			j := roll(i + 1)
			pairs[i], pairs[j] = pairs[j], pairs[i]
		}
		f := of(joined(7, pairs...))
		is(t, "R8: joined in another order", f, want)
		has(t, "R8: All", All(f, bag.Of(2)), askedAll(f, bag.Of(2))...)
	}
}
