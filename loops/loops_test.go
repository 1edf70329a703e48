package loops

import (
	"fmt"
	"math"
	"runtime/debug"
	"slices"
	"testing"

	"refinery/api"
	"refinery/bag"
	"refinery/dom"
	"refinery/graph"
	"refinery/parse"
)

// joined: a graph of n places, joined in the order of the pairs.
func joined(n int, pairs ...[2]int) graph.Graph {
	g := graph.New(n)
	for _, e := range pairs {
		g.Join(e[0], e[1])
	}
	return g
}

// of: a graph's loops.
func of(g graph.Graph) []Loop { return Of(g, dom.Of(g)) }

// round is a loop as a list: its head, and its body.
type round struct {
	head int
	body []int
}

func rounds(l []Loop) []round {
	all := make([]round, len(l))
	for i, loop := range l {
		all[i] = round{loop.Head, loop.Body.List()}
	}
	return all
}

// is: are loops these, in this order?
func is(t *testing.T, what any, got []Loop, want []round) {
	t.Helper()
	same := func(a, b round) bool { return a.head == b.head && slices.Equal(a.body, b.body) }
	if !slices.EqualFunc(rounds(got), want, same) {
		t.Errorf("%v: %v, not %v", what, rounds(got), want)
	}
}

// deep: are depths these?
func deep(t *testing.T, what any, got []int, want ...int) {
	t.Helper()
	if !slices.Equal(got, want) {
		t.Errorf("%v: %v, not %v", what, got, want)
	}
}

// loop: one that is written out.
func loop(head int, body ...int) Loop { return Loop{head, bag.Of(body...)} }

// comes: to which places one comes from a place, without another one (-1: with all).
func comes(g graph.Graph, from, without int) []bool {
	met := make([]bool, g.Len())
	if g.Len() == 0 || from == without {
		return met
	}
	met[from] = true
	open := []int{from}
	for len(open) > 0 {
		v := open[0]
		open = open[1:]
		for _, w := range g.Behind(v) {
			if w != without && !met[w] {
				met[w] = true
				open = append(open, w)
			}
		}
	}
	return met
}

// asked: loops by P10.1's own words, without a tree.
func asked(g graph.Graph) []round {
	var all []round
	reached := comes(g, 0, -1)
	for h := range g.Len() {
		past := comes(g, 0, h)
		tails := slices.DeleteFunc(g.Ahead(h), func(u int) bool { return !reached[h] || !reached[u] || past[u] })
		if len(tails) == 0 {
			continue
		}
		body := []int{h}
		for v := range g.Len() {
			to := comes(g, v, h)
			if reached[v] && slices.ContainsFunc(tails, func(u int) bool { return to[u] }) {
				body = append(body, v)
			}
		}
		slices.Sort(body)
		all = append(all, round{h, body})
	}
	// Heads rise, and those of as many stay as they are.
	slices.SortStableFunc(all, func(a, b round) int { return len(a.body) - len(b.body) })
	return all
}

// askedDeep: depths by P10.1's own words.
func askedDeep(n int, l []Loop) []int {
	var all []int
	for v := range n {
		count := 0
		for _, loop := range l {
			if loop.Body.Has(v) {
				count++
			}
		}
		all = append(all, count)
	}
	return all
}

func holds(t *testing.T, what any, g graph.Graph) {
	t.Helper()
	l := of(g)
	is(t, fmt.Sprint("P10.1: Of ", what), l, asked(g))
	deep(t, fmt.Sprint("P10.1: Deep of ", what), Deep(g.Len(), l), askedDeep(g.Len(), l)...)
}

// dice: a row of numbers that is the same each time.
func dice(seed uint64) func(n int) int {
	return func(n int) int {
		seed = seed*6364136223846793005 + 1442695040888963407
		return int(seed>>33) % n
	}
}

// P10.1: the chapter's example: a place behind itself is a loop of one.
func TestExample(t *testing.T) {
	l := of(joined(1, [2]int{0, 0}))
	is(t, "P10.1: Of the first, behind itself", l, []round{{0, []int{0}}})
	deep(t, "P10.1: Deep of the first, behind itself", Deep(1, l), 1)
	l = of(joined(3, [2]int{0, 1}, [2]int{1, 1}, [2]int{1, 2}))
	is(t, "P10.1: Of a place behind itself", l, []round{{1, []int{1}}})
	deep(t, "P10.1: Deep of a place behind itself", Deep(3, l), 0, 1, 0)
}

type shape struct {
	name  string
	n     int
	pairs [][2]int
	want  []round
	deep  []int
}

func (c shape) holds(t *testing.T) {
	t.Helper()
	g := joined(c.n, c.pairs...)
	l := of(g)
	is(t, "P10.1: Of: "+c.name, l, c.want)
	deep(t, "P10.1: Deep: "+c.name, Deep(c.n, l), c.deep...)
	holds(t, c.name, g)
}

// P10.1: shapes with answers written out.
func TestShapes(t *testing.T) {
	for _, c := range []shape{
		{"no place", 0, nil, nil, nil},
		{"one place", 1, nil, nil, []int{0}},
		{"nothing joined", 3, nil, nil, []int{0, 0, 0}},
		{"a row", 4, [][2]int{{0, 1}, {1, 2}, {2, 3}}, nil, []int{0, 0, 0, 0}},
		{"a row the other way", 4, [][2]int{{0, 3}, {3, 2}, {2, 1}}, nil, []int{0, 0, 0, 0}},
		{"ways that meet again", 4, [][2]int{{0, 1}, {0, 2}, {1, 3}, {2, 3}}, nil, []int{0, 0, 0, 0}},
		{"a ring behind the first", 4, [][2]int{{0, 1}, {1, 2}, {2, 3}, {3, 1}}, []round{{1, []int{1, 2, 3}}}, []int{0, 1, 1, 1}},
		{"a ring behind the first, the other way", 4, [][2]int{{0, 3}, {3, 2}, {2, 1}, {1, 3}}, []round{{3, []int{1, 2, 3}}}, []int{0, 1, 1, 1}},
		{"a ring that holds the first", 4, [][2]int{{0, 1}, {1, 2}, {2, 3}, {3, 0}}, []round{{0, []int{0, 1, 2, 3}}}, []int{1, 1, 1, 1}},
		{"a ring that holds the first, the other way", 3, [][2]int{{0, 2}, {2, 1}, {1, 0}}, []round{{0, []int{0, 1, 2}}}, []int{1, 1, 1}},
		{"a ring of two that holds the first", 2, [][2]int{{0, 1}, {1, 0}}, []round{{0, []int{0, 1}}}, []int{1, 1}},
		{"the first is gone back to from the middle", 4, [][2]int{{0, 1}, {1, 2}, {2, 3}, {1, 0}}, []round{{0, []int{0, 1}}}, []int{1, 1, 0, 0}},
		{"a ring with ways out", 6, [][2]int{{0, 1}, {1, 2}, {2, 3}, {3, 1}, {1, 4}, {2, 5}, {4, 5}}, []round{{1, []int{1, 2, 3}}}, []int{0, 1, 1, 1, 0, 0}},
		{"all behind themselves", 3, [][2]int{{0, 0}, {0, 1}, {1, 1}, {1, 2}, {2, 2}}, []round{{0, []int{0}}, {1, []int{1}}, {2, []int{2}}}, []int{1, 1, 1}},
		{"ways that meet in a loop", 6, [][2]int{{0, 1}, {1, 2}, {1, 3}, {2, 4}, {3, 4}, {4, 1}, {4, 5}}, []round{{1, []int{1, 2, 3, 4}}}, []int{0, 1, 1, 1, 1, 0}},
	} {
		c.holds(t)
	}
}

// P10.1: more than one loop: in each other, beside each other, of one head; and which is first.
func TestSeveral(t *testing.T) {
	for _, c := range []shape{
		{"one in another", 6, [][2]int{{0, 1}, {1, 2}, {2, 3}, {3, 2}, {3, 4}, {4, 1}, {4, 5}}, []round{{2, []int{2, 3}}, {1, []int{1, 2, 3, 4}}}, []int{0, 1, 2, 2, 1, 0}},
		{"three in each other", 6, [][2]int{{0, 1}, {1, 2}, {2, 3}, {3, 3}, {3, 4}, {4, 2}, {4, 5}, {5, 1}}, []round{{3, []int{3}}, {2, []int{2, 3, 4}}, {1, []int{1, 2, 3, 4, 5}}}, []int{0, 1, 2, 3, 2, 1}},
		{"in each other, with one last place", 4, [][2]int{{0, 1}, {1, 2}, {2, 3}, {3, 2}, {3, 1}, {3, 0}}, []round{{2, []int{2, 3}}, {1, []int{1, 2, 3}}, {0, []int{0, 1, 2, 3}}}, []int{1, 2, 3, 3}},
		{"one behind itself that heads a greater one", 3, [][2]int{{0, 1}, {1, 1}, {1, 2}, {2, 1}}, []round{{1, []int{1, 2}}}, []int{0, 1, 1}},
		{"one behind itself, last of a greater one", 3, [][2]int{{0, 1}, {2, 2}, {1, 2}, {2, 1}}, []round{{2, []int{2}}, {1, []int{1, 2}}}, []int{0, 1, 2}},
		{"two beside each other", 6, [][2]int{{0, 4}, {4, 5}, {5, 4}, {0, 1}, {1, 2}, {2, 1}, {5, 3}, {2, 3}}, []round{{1, []int{1, 2}}, {4, []int{4, 5}}}, []int{0, 1, 1, 0, 1, 1}},
		{"two, one behind the other", 6, [][2]int{{0, 3}, {3, 4}, {4, 3}, {4, 1}, {1, 2}, {2, 1}, {2, 5}}, []round{{1, []int{1, 2}}, {3, []int{3, 4}}}, []int{0, 1, 1, 1, 1, 0}},
		{"a greater one of a lesser head", 6, [][2]int{{0, 1}, {1, 2}, {2, 3}, {3, 1}, {3, 4}, {4, 5}, {5, 4}}, []round{{4, []int{4, 5}}, {1, []int{1, 2, 3}}}, []int{0, 1, 1, 1, 1, 1}},
		{"two of one head", 5, [][2]int{{0, 1}, {1, 2}, {1, 3}, {2, 1}, {3, 1}, {3, 4}}, []round{{1, []int{1, 2, 3}}}, []int{0, 1, 1, 1, 0}},
		{"two of one head that share a place", 5, [][2]int{{0, 1}, {1, 2}, {2, 3}, {2, 4}, {3, 1}, {4, 1}}, []round{{1, []int{1, 2, 3, 4}}}, []int{0, 1, 1, 1, 1}},
		{"two of the first", 3, [][2]int{{0, 1}, {0, 2}, {1, 0}, {2, 0}}, []round{{0, []int{0, 1, 2}}}, []int{1, 1, 1}},
		{"a short and a long one of one head", 4, [][2]int{{0, 1}, {1, 2}, {2, 3}, {2, 1}, {3, 1}}, []round{{1, []int{1, 2, 3}}}, []int{0, 1, 1, 1}},
		{"two in one", 6, [][2]int{{0, 1}, {1, 2}, {2, 2}, {2, 3}, {3, 4}, {4, 3}, {4, 5}, {5, 1}}, []round{{2, []int{2}}, {3, []int{3, 4}}, {1, []int{1, 2, 3, 4, 5}}}, []int{0, 1, 2, 2, 2, 1}},
	} {
		c.holds(t)
	}
}

// P10.1: rounds with more than one way in are no loop, but may be in one.
func TestWaysIn(t *testing.T) {
	for _, c := range []shape{
		{"two ways in", 3, [][2]int{{0, 1}, {0, 2}, {1, 2}, {2, 1}}, nil, []int{0, 0, 0}},
		{"two ways in, behind one place", 5, [][2]int{{0, 4}, {4, 1}, {4, 3}, {1, 2}, {2, 3}, {3, 1}}, nil, []int{0, 0, 0, 0, 0}},
		{"three ways in", 4, [][2]int{{0, 1}, {0, 2}, {0, 3}, {1, 2}, {2, 3}, {3, 1}}, nil, []int{0, 0, 0, 0}},
		{"two ways in, within a loop", 4, [][2]int{{0, 1}, {1, 2}, {1, 3}, {2, 3}, {3, 2}, {3, 1}}, []round{{1, []int{1, 2, 3}}}, []int{0, 1, 1, 1}},
		{"two ways in, within a loop, ahead of its last", 5, [][2]int{{0, 1}, {1, 2}, {1, 3}, {2, 3}, {3, 2}, {2, 4}, {4, 1}}, []round{{1, []int{1, 2, 3, 4}}}, []int{0, 1, 1, 1, 1}},
		{"two ways in, and a loop in it", 4, [][2]int{{0, 1}, {0, 2}, {1, 2}, {2, 1}, {2, 2}, {1, 3}, {3, 1}}, []round{{2, []int{2}}, {1, []int{1, 3}}}, []int{0, 1, 1, 1}},
		{"a head that one comes back to by a way past it, too", 5, [][2]int{{0, 1}, {0, 4}, {1, 2}, {2, 3}, {3, 1}, {2, 4}, {4, 1}}, []round{{1, []int{1, 2, 3}}}, []int{0, 1, 1, 1, 0}},
	} {
		c.holds(t)
	}
}

// P10.1: places that aren't reached are in no loop, and have none of their own.
func TestUnreached(t *testing.T) {
	for _, c := range []shape{
		{"a round of their own", 4, [][2]int{{0, 1}, {2, 3}, {3, 2}}, nil, []int{0, 0, 0, 0}},
		{"one behind itself", 3, [][2]int{{0, 1}, {2, 2}}, nil, []int{0, 0, 0}},
		{"one behind itself that leads to the first", 2, [][2]int{{1, 1}, {1, 0}}, nil, []int{0, 0}},
		{"a round that leads into a row", 5, [][2]int{{0, 1}, {1, 2}, {3, 4}, {4, 3}, {4, 1}, {3, 0}}, nil, []int{0, 0, 0, 0, 0}},
		{"ahead of a head", 5, [][2]int{{0, 1}, {1, 2}, {2, 1}, {3, 1}, {4, 3}}, []round{{1, []int{1, 2}}}, []int{0, 1, 1, 0, 0}},
		{"ahead of a last place", 5, [][2]int{{0, 1}, {1, 2}, {2, 1}, {3, 2}, {4, 3}}, []round{{1, []int{1, 2}}}, []int{0, 1, 1, 0, 0}},
		{"ahead of the middle, in a round", 6, [][2]int{{0, 1}, {1, 2}, {2, 3}, {3, 1}, {4, 2}, {5, 4}, {4, 5}, {5, 5}}, []round{{1, []int{1, 2, 3}}}, []int{0, 1, 1, 1, 0, 0}},
		{"ahead of a ring that holds the first", 4, [][2]int{{0, 1}, {1, 0}, {2, 0}, {2, 1}, {2, 2}, {3, 2}}, []round{{0, []int{0, 1}}}, []int{1, 1, 0, 0}},
		{"the first alone has some ahead of it", 3, [][2]int{{1, 0}, {2, 0}, {1, 2}, {2, 1}}, nil, []int{0, 0, 0}},
	} {
		c.holds(t)
	}
}

// P10.1: many of as many, whose heads are met in another order than they rise.
func TestOrder(t *testing.T) {
	const n = 60
	g := graph.New(2*n + 1)
	var want []round
	for k := range n {
		h := 1 + (k*37)%n
		g.Join(0, h)
		g.Join(h, h+n)
		// Each third is a loop of one, each third one of two, the others have none.
		if h%3 == 0 {
			g.Join(h, h)
		}
		if h%3 == 1 {
			g.Join(h+n, h)
		}
	}
	for h := 1; h <= n; h++ {
		if h%3 == 0 {
			want = append(want, round{h, []int{h}})
		}
	}
	for h := 1; h <= n; h++ {
		if h%3 == 1 {
			want = append(want, round{h, []int{h, h + n}})
		}
	}
	is(t, "P10.1: the order of loops beside each other", of(g), want)
}

// P10.1: loops of a program's blocks.
func TestProgram(t *testing.T) {
	p, _, err := parse.Parse("@7:\n  %1 = in\n  jump @3\n@3:\n  br %1, @9, @4\n@9:\n  br %1, @9, @8\n@8:\n  jump @3\n@4:\n  ret %1\n@5:\n  jump @5\n")
	if err != api.OK {
		t.Fatal(err)
	}
	l := of(graph.Of(p))
	is(t, "P10.1: of a program", l, []round{{2, []int{2}}, {1, []int{1, 2, 3}}})
	deep(t, "P10.1: of a program", Deep(len(p.Blocks), l), 0, 1, 2, 1, 0, 0)
}

// P10.1: all graphs of up to four places.
func TestSmall(t *testing.T) {
	for n := range 5 {
		for bits := range 1 << (n * n) {
			g := graph.New(n)
			for e := range n * n {
				if bits>>e&1 == 1 {
					g.Join(e/n, e%n)
				}
			}
			holds(t, fmt.Sprintf("%d places, joined as %b", n, bits), g)
			if t.Failed() {
				return
			}
		}
	}
}

// P10.1: graphs of all kinds, few and many joins.
func TestAny(t *testing.T) {
	for seed := range 3000 {
		roll := dice(uint64(seed) + 7)
		n := 1 + roll(24)
		g := graph.New(n)
		for range roll(3*n) + roll(n+1) {
			a := roll(n)
			if roll(3) == 0 {
				g.Join(a, roll(n))
			} else {
				g.Join(a, min(max(a+roll(7)-2, 0), n-1))
			}
		}
		holds(t, fmt.Sprint("any graph, ", seed), g)
		if t.Failed() {
			return
		}
	}
}

// P10.1: graphs of many places, with loops in each other and beside each other.
func TestMany(t *testing.T) {
	for seed := range 3 {
		roll := dice(uint64(seed) + 99)
		g := graph.New(150)
		for v := range 150 {
			g.Join(v, min(v+1, 149))
			g.Join(v, min(v+1+roll(3), 149))
			if roll(3) == 0 {
				g.Join(v, max(v-roll(40), 0))
			}
		}
		holds(t, fmt.Sprint("150 places, ", seed), g)
	}
}

// P10.1: Deep of no places, of fewer than the Bodies have, of more, of no loops.
func TestDeep(t *testing.T) {
	l := []Loop{loop(2, 2), loop(1, 1, 2, 3), loop(4, 3, 4), loop(1, 1, 2, 3)}
	all := []int{0, 2, 3, 3, 1, 0, 0, 0}
	for n := range len(all) + 1 {
		deep(t, fmt.Sprint("P10.1: Deep of ", n, " places"), Deep(n, l), all[:n]...)
		deep(t, fmt.Sprint("P10.1: Deep of ", n, " places, of no loops"), Deep(n, nil), make([]int, n)...)
		deep(t, fmt.Sprint("P10.1: Deep of ", n, " places, of no loops"), Deep(n, []Loop{}), make([]int, n)...)
	}
	slices.Reverse(l)
	deep(t, "P10.1: Deep, loops in another order", Deep(8, l), all...)
}

// P10.1: Deep goes by Bodies alone: a Head that isn't in its own isn't counted.
func TestDeepHeads(t *testing.T) {
	deep(t, "P10.1: Deep, heads outside", Deep(4, []Loop{loop(0, 1), loop(3), loop(-1, 1, 2), loop(9, 0)}), 1, 2, 1, 0)
}

// P1: Deep of a count below 0.
func TestDeepBelow(t *testing.T) {
	for _, n := range []int{-1, -2, -1 << 31, -1 << 40, math.MinInt + 1, math.MinInt} {
		deep(t, fmt.Sprint("P1: Deep of ", n, " places"), Deep(n, []Loop{loop(0, n, n/2, -1, 0, 1)}))
		deep(t, fmt.Sprint("P1: Deep of ", n, " places"), Deep(n, nil))
	}
}

// P1: Deep of more places than there is room for: some answer.
func TestDeepHuge(t *testing.T) {
	for _, n := range []int{1 << 31, 1 << 40, 1 << 61, math.MaxInt - 1, math.MaxInt} {
		Deep(n, nil)
		Deep(n, []Loop{loop(0, 0, n-1, n/2)})
	}
	const n = 1 << 22
	if d := Deep(n, []Loop{loop(0, 0, n-1, n)}); len(d) != n || d[0] != 1 || d[1] != 0 || d[n-1] != 1 {
		t.Errorf("P10.1: Deep of %d places: %d", n, len(d))
	}
}

// P10.1: Deep of Bodies with places below 0, at the count and beyond.
func TestDeepOutside(t *testing.T) {
	for _, n := range []int{0, 1, 2, 5} {
		body := []int{math.MinInt, math.MinInt + 1, -1 << 32, -n - 1, -n, -2, -1, n, n + 1, 2*n + 2, 1 << 32, math.MaxInt - 1, math.MaxInt}
		deep(t, fmt.Sprint("P10.1: Deep of ", n, ", all outside"), Deep(n, []Loop{loop(0, body...), loop(n, body...)}), make([]int, n)...)
		if n == 0 {
			continue
		}
		want := make([]int, n)
		want[0]++
		want[n-1]++
		deep(t, fmt.Sprint("P10.1: Deep of ", n, ", some outside"), Deep(n, []Loop{loop(0, append(body, 0)...), loop(-1, append(body, n-1)...)}), want...)
	}
}

// P10.1: Deep of any loops, also of those that no graph has.
func TestDeepAny(t *testing.T) {
	for seed := range 3000 {
		roll := dice(uint64(seed) + 41)
		n := roll(12)
		l := make([]Loop, roll(6))
		for i := range l {
			l[i].Head = roll(n+4) - 2
			for range roll(n + 3) {
				l[i].Body.Add(roll(n+4) - 2)
			}
		}
		deep(t, fmt.Sprint("P10.1: Deep of ", n, ", ", rounds(l)), Deep(n, l), askedDeep(n, l)...)
	}
}

// R7: zero graphs, zero trees, zero loops.
func TestZero(t *testing.T) {
	var g graph.Graph
	var d dom.Tree
	ring := joined(3, [2]int{0, 1}, [2]int{1, 2}, [2]int{2, 0})
	is(t, "R7: zero graph, zero tree", Of(g, d), nil)
	is(t, "R7: zero graph, its tree", Of(g, dom.Of(g)), nil)
	is(t, "R7: no places", of(graph.New(-1)), nil)
	is(t, "R7: one place, joined to nothing", of(graph.New(1)), nil)
	Of(g, dom.Of(ring))
	Of(ring, d)
	deep(t, "R7: nothing", Deep(0, nil))
	deep(t, "R7: zero loops", Deep(2, make([]Loop, 3)), 0, 0)
	deep(t, "R7: a zero loop beside another", Deep(2, []Loop{{}, loop(1, 1), {Head: 1}}), 0, 1)
}

// P1: a tree that isn't the graph's: some answer, each head once, each in its own body, and in order.
func TestOtherTree(t *testing.T) {
	row, ring, back := graph.New(40), graph.New(7), graph.New(40)
	for v := range 39 {
		row.Join(v, v+1)
		ring.Join(v%7, (v+1)%7)
		back.Join(39-v, max(38-v, 1))
	}
	back.Join(0, 39)
	huge := joined(math.MaxInt, [2]int{0, math.MaxInt - 1}, [2]int{math.MaxInt - 1, 3}, [2]int{3, 0})
	graphs := []graph.Graph{{}, row, ring, back, graph.New(0), graph.New(1), graph.New(9), huge}
	for seed := range 60 {
		roll := dice(uint64(seed) + 5)
		n := 1 + roll(30)
		g := graph.New(n)
		for range 2 * n {
			g.Join(roll(n), roll(n))
		}
		graphs = append(graphs, g)
	}
	for i, g := range graphs {
		for j, h := range graphs {
			heads := map[int]bool{}
			l := Of(g, dom.Of(h))
			for k, loop := range l {
				if heads[loop.Head] || !loop.Body.Has(loop.Head) || k > 0 && loop.Body.Len() < l[k-1].Body.Len() {
					t.Errorf("P1: graph %d with tree %d: %v", i, j, rounds(l))
				}
				heads[loop.Head] = true
			}
			Deep(40, l)
		}
	}
}

// P1: graphs of more places than there is room for one each.
func TestHuge(t *testing.T) {
	for _, n := range []int{1 << 31, 1 << 40, math.MaxInt - 1, math.MaxInt} {
		g := joined(n, [2]int{0, n - 1}, [2]int{n - 1, n / 2}, [2]int{n / 2, n - 1}, [2]int{n / 2, 7}, [2]int{7, 7}, [2]int{5, n - 1})
		is(t, fmt.Sprint("P10.1: of ", n, " places"), of(g), []round{{7, []int{7}}, {n - 1, []int{n / 2, n - 1}}})
	}
}

// P1: rows and rings of many places take neither much stack nor long.
func TestLong(t *testing.T) {
	defer debug.SetMaxStack(debug.SetMaxStack(1 << 20))
	const n = 100000
	row, ring, back, selves := graph.New(n), graph.New(n), graph.New(n), graph.New(n)
	for v := range n - 1 {
		row.Join(v, v+1)
		ring.Join(v, v+1)
		back.Join(v, v+1)
		back.Join(v, 0)
		selves.Join(v, v+1)
		selves.Join(v, v)
	}
	ring.Join(n-1, 0)
	// All but the first, from the last back.
	around := graph.New(n)
	around.Join(0, n-1)
	for v := range n - 2 {
		around.Join(n-1-v, n-2-v)
	}
	around.Join(1, n-1)
	is(t, "P10.1: a long row", of(row), nil)
	for name, c := range map[string]struct {
		g          graph.Graph
		head, many int
	}{"ring": {ring, 0, n}, "back to the first": {back, 0, n - 1}, "ring behind the first": {around, n - 1, n - 1}} {
		l := of(c.g)
		if len(l) != 1 || l[0].Head != c.head || l[0].Body.Len() != c.many {
			t.Fatalf("P10.1: long, %s: %d loops", name, len(l))
		}
		count := 0
		for _, k := range Deep(n, l) {
			count += k
		}
		if count != c.many {
			t.Errorf("P10.1: Deep of a long one, %s: %d", name, count)
		}
	}
	l := of(selves)
	for v := range n - 1 {
		if len(l) != n-1 || l[v].Head != v || l[v].Body.Len() != 1 {
			t.Fatalf("P10.1: a long row of places behind themselves: %d loops, at %d", len(l), v)
		}
	}
}

// P1: many loops in each other.
func TestNested(t *testing.T) {
	const n = 1000
	g := graph.New(2 * n)
	for v := range 2*n - 1 {
		g.Join(v, v+1)
	}
	for k := range n {
		g.Join(n+k, n-1-k)
	}
	l := of(g)
	if len(l) != n {
		t.Fatalf("P10.1: loops in loops: %d", len(l))
	}
	for k := range n {
		if l[k].Head != n-1-k || l[k].Body.Len() != 2*k+2 || !l[k].Body.Has(n+k) {
			t.Fatalf("P10.1: loops in loops, at %d: %d, of %d", k, l[k].Head, l[k].Body.Len())
		}
	}
	for v, k := range Deep(2*n, l) {
		if k != min(v, 2*n-1-v)+1 {
			t.Fatalf("P10.1: loops in loops: %d is in %d", v, k)
		}
	}
}

// sample is a graph with a loop in a loop, and some beside it.
func sample() graph.Graph {
	return joined(8, [2]int{0, 1}, [2]int{1, 2}, [2]int{2, 3}, [2]int{3, 2}, [2]int{3, 4}, [2]int{4, 1}, [2]int{4, 5}, [2]int{6, 1}, [2]int{5, 7}, [2]int{7, 5})
}

func sampled() []round { return []round{{2, []int{2, 3}}, {5, []int{5, 7}}, {1, []int{1, 2, 3, 4}}} }

// R6: what Of answers is new memory, no two bodies of it share any, and the graph and the tree are as they were.
func TestOfNewMemory(t *testing.T) {
	g := sample()
	d := dom.Of(g)
	l, other := Of(g, d), Of(g, d)
	for i := range l {
		want := sampled()
		l[i].Body.Add(-1)
		l[i].Body.Drop(2)
		l[i].Body.Add(9)
		l[i].Body.Add(10)
		is(t, "R6: loops behind the one that was changed", l[i+1:], want[i+1:])
	}
	l[0] = loop(5, 5)
	is(t, "R6: another answer", other, sampled())
	is(t, "R6: asked again", Of(g, d), sampled())
	h := sample()
	for v := range 8 {
		if !slices.Equal(g.Behind(v), h.Behind(v)) || !slices.Equal(g.Ahead(v), h.Ahead(v)) || d.Up(v) != dom.Of(h).Up(v) {
			t.Errorf("R6: the graph or the tree was changed at %d", v)
		}
	}
	g.Join(0, 3)
	g.Join(5, 0)
	is(t, "R6: the graph was changed behind Of", other, sampled())
}

// R6: what is handed to Deep is as it was, spare room included, and what it answers is new memory.
func TestDeepHandedIn(t *testing.T) {
	body := bag.Of(1, 2, math.MaxInt)
	body.Drop(math.MaxInt)
	whole := body
	whole.Add(math.MaxInt)
	long := []Loop{{7, body}, loop(1, 1), {-3, whole}, loop(4, 4), loop(9, 9)}
	before := rounds(long)
	a, b := Deep(3, long[:3]), Deep(3, long[:3])
	deep(t, "P10.1: Deep", a, 0, 3, 2)
	for i := range a {
		a[i] = -1
	}
	deep(t, "R6: another answer", b, 0, 3, 2)
	is(t, "R6: loops, and behind them", long, before)
	if !slices.Equal(whole.List(), []int{1, 2, math.MaxInt}) {
		t.Errorf("R6: a body's spare room: %v", whole.List())
	}
	long[1].Body.Add(2)
	long[0].Body.Drop(1)
	deep(t, "R6: an answer, when loops were changed", b, 0, 3, 2)
}

// R8: one graph, joined in another order, has the same loops; and each time the same.
func TestSameEachTime(t *testing.T) {
	pairs := [][2]int{{0, 1}, {0, 2}, {1, 3}, {2, 3}, {3, 1}, {3, 4}, {4, 0}, {2, 5}, {4, 5}, {5, 5}, {6, 3}, {3, 7}, {7, 3}, {7, 7}}
	want := rounds(of(joined(8, pairs...)))
	for seed := range 50 {
		roll := dice(uint64(seed))
		for i := range pairs {
			j := roll(i + 1)
			pairs[i], pairs[j] = pairs[j], pairs[i]
		}
		is(t, "R8: joined in another order", of(joined(8, pairs...)), want)
	}
}
