package live

import (
	"testing"

	"refinery/ir"
)

// shape is a program, and its sets, written out.
type shape struct {
	name    string
	text    string
	in, out [][]int
}

func (c shape) holds(t *testing.T) {
	t.Helper()
	p := read(t, c.text, nil)
	are(t, c.name, Of(p), c.in, c.out)
	holds(t, c.name, p)
}

// P11.1: no block, one block, rows of blocks, ways that part and meet.
func TestRows(t *testing.T) {
	are(t, "no block", Of(ir.Program{}), nil, nil)
	are(t, "no block", Of(ir.Program{Blocks: []ir.Block{}}), nil, nil)
	for _, c := range []shape{
		{"one that traps", "@0:\n  trap\n", [][]int{{}}, [][]int{{}}},
		{"one that returns", "@0:\n  ret %3\n", [][]int{{3}}, [][]int{{}}},
		{"one that returns what it sets", "@0:\n  %3 = in\n  ret %3\n", [][]int{{}}, [][]int{{}}},
		{"the greatest label and register", "@99999:\n  out %99999\n  trap\n", [][]int{{99999}}, [][]int{{}}},
		{"a row", "@0:\n  %1 = in\n  jump @1\n@1:\n  jump @2\n@2:\n  ret %1\n", [][]int{{}, {1}, {1}}, [][]int{{1}, {1}, {}}},
		{"a row the other way", "@5:\n  %1 = in\n  jump @2\n@1:\n  ret %1\n@2:\n  jump @1\n", [][]int{{}, {1}, {1}}, [][]int{{1}, {}, {1}}},
		{"set again on the way", "@0:\n  %1 = in\n  jump @1\n@1:\n  %1 = 2\n  jump @2\n@2:\n  ret %1\n", [][]int{{}, {}, {1}}, [][]int{{}, {1}, {}}},
		{"set again of itself", "@0:\n  %1 = in\n  jump @1\n@1:\n  %1 = add %1, %1\n  jump @2\n@2:\n  ret %1\n", [][]int{{}, {1}, {1}}, [][]int{{1}, {1}, {}}},
		{"ways that meet", "@0:\n  %1 = in\n  %2 = in\n  br %1, @1, @2\n@1:\n  out %2\n  jump @3\n@2:\n  %2 = 5\n  jump @3\n@3:\n  ret %2\n",
			[][]int{{}, {2}, {}, {2}}, [][]int{{2}, {2}, {2}, {}}},
		{"read on one way alone", "@0:\n  %1 = in\n  %2 = in\n  br %1, @1, @2\n@1:\n  ret %2\n@2:\n  ret %1\n",
			[][]int{{}, {2}, {1}}, [][]int{{1, 2}, {}, {}}},
		{"both labels the same", "@0:\n  %1 = in\n  br %1, @1, @1\n@1:\n  ret %2\n", [][]int{{2}, {2}}, [][]int{{2}, {}}},
		{"an end reads what is not live behind it", "@0:\n  br %4, @1, @2\n@1:\n  trap\n@2:\n  trap\n", [][]int{{4}, {}, {}}, [][]int{{}, {}, {}}},
	} {
		c.holds(t)
	}
}

// P11.1: registers that are read ahead of being set, that are set and never read, that are set behind being read.
func TestRegisters(t *testing.T) {
	for _, c := range []shape{
		{"read ahead of being set", "@0:\n  out %1\n  %1 = in\n  ret %1\n", [][]int{{1}}, [][]int{{}}},
		{"read ahead of being set, blocks later", "@0:\n  jump @1\n@1:\n  jump @2\n@2:\n  out %1\n  %1 = in\n  ret %1\n", [][]int{{1}, {1}, {1}}, [][]int{{1}, {1}, {}}},
		{"set on one way of two", "@0:\n  br %0, @1, @2\n@1:\n  %1 = in\n  jump @2\n@2:\n  ret %1\n", [][]int{{0, 1}, {}, {1}}, [][]int{{1}, {1}, {}}},
		{"set and never read", "@0:\n  %1 = in\n  jump @1\n@1:\n  %1 = 2\n  trap\n", [][]int{{}, {}}, [][]int{{}, {}}},
		{"read by what is never read", "@0:\n  %1 = in\n  jump @1\n@1:\n  %2 = %1\n  trap\n", [][]int{{}, {1}}, [][]int{{1}, {}}},
		{"never read behind", "@0:\n  %1 = in\n  out %1\n  jump @1\n@1:\n  trap\n", [][]int{{}, {}}, [][]int{{}, {}}},
		{"slots and memory are no registers", "@0:\n  store $3, %1\n  put %2, %4\n  jump @1\n@1:\n  %5 = load $3\n  %6 = get %7\n  trap\n", [][]int{{1, 2, 4, 7}, {7}}, [][]int{{7}, {}}},
		{"numbers are no registers", "@0:\n  %1 = 2\n  jump @1\n@1:\n  %2 = 1\n  ret %2\n", [][]int{{}, {}}, [][]int{{}, {}}},
	} {
		c.holds(t)
	}
}

// P11.1: rounds, rounds within each other, blocks that go on at themselves, what is read in a later round alone.
func TestRounds(t *testing.T) {
	for _, c := range []shape{
		{"the first goes on at itself", "@0:\n  out %1\n  jump @0\n", [][]int{{1}}, [][]int{{1}}},
		{"the first goes on at itself, and sets", "@0:\n  out %1\n  %1 = in\n  jump @0\n", [][]int{{1}}, [][]int{{1}}},
		{"sets ahead of reading, each round", "@0:\n  %1 = in\n  out %1\n  jump @0\n", [][]int{{}}, [][]int{{}}},
		{"goes on at itself by its branch", "@0:\n  %1 = in\n  jump @1\n@1:\n  br %1, @1, @2\n@2:\n  ret %2\n", [][]int{{2}, {1, 2}, {2}}, [][]int{{1, 2}, {1, 2}, {}}},
		{"read in a later round alone", "@0:\n  %1 = in\n  jump @1\n@1:\n  br %1, @2, @3\n@2:\n  out %2\n  jump @4\n@4:\n  %2 = in\n  jump @1\n@3:\n  trap\n",
			[][]int{{2}, {1, 2}, {1, 2}, {1}, {}}, [][]int{{1, 2}, {1, 2}, {1}, {1, 2}, {}}},
		{"set at the end of a round, read at the next one's beginning", "@0:\n  %2 = 0\n  %1 = in\n  jump @1\n@1:\n  out %2\n  jump @2\n@2:\n  %2 = %1\n  jump @1\n",
			[][]int{{}, {1, 2}, {1}}, [][]int{{1, 2}, {1}, {1, 2}}},
		{"a round without a way out", "@0:\n  %1 = in\n  %2 = in\n  jump @1\n@1:\n  jump @2\n@2:\n  jump @1\n", [][]int{{}, {}, {}}, [][]int{{}, {}, {}}},
		{"a round, entered at two places", "@0:\n  %1 = in\n  %2 = in\n  br %1, @1, @2\n@1:\n  %2 = 4\n  jump @2\n@2:\n  br %2, @1, @3\n@3:\n  ret %1\n",
			[][]int{{}, {1}, {1, 2}, {1}}, [][]int{{1, 2}, {1, 2}, {1}, {}}},
		{"rounds within each other", "@0:\n  %1 = in\n  %2 = in\n  %3 = in\n  jump @1\n@1:\n  %4 = 0\n  jump @2\n@2:\n  %4 = add %4, %2\n  br %4, @2, @3\n@3:\n  out %3\n  br %1, @1, @4\n@4:\n  ret %5\n",
			[][]int{{5}, {1, 2, 3, 5}, {1, 2, 3, 4, 5}, {1, 2, 3, 5}, {5}},
			[][]int{{1, 2, 3, 5}, {1, 2, 3, 4, 5}, {1, 2, 3, 4, 5}, {1, 2, 3, 5}, {}}},
		{"set in the inner round, read in the outer one", "@0:\n  jump @1\n@1:\n  out %1\n  jump @2\n@2:\n  %1 = in\n  br %1, @2, @1\n", [][]int{{1}, {1}, {}}, [][]int{{1}, {}, {1}}},
	} {
		c.holds(t)
	}
}

// P11.1: blocks that aren't reached have sets like others, and count for the blocks ahead of them alone.
func TestUnreached(t *testing.T) {
	for _, c := range []shape{
		{"one alone", "@0:\n  trap\n@1:\n  ret %1\n", [][]int{{}, {1}}, [][]int{{}, {}}},
		{"ahead of the first", "@0:\n  ret %1\n@1:\n  jump @0\n", [][]int{{1}, {1}}, [][]int{{}, {1}}},
		{"ahead of one that is reached", "@0:\n  %1 = in\n  jump @2\n@1:\n  out %3\n  jump @2\n@2:\n  ret %1\n", [][]int{{}, {1, 3}, {1}}, [][]int{{1}, {1}, {}}},
		{"a round of their own", "@0:\n  %1 = in\n  ret %1\n@1:\n  out %1\n  jump @2\n@2:\n  %2 = in\n  br %3, @1, @2\n", [][]int{{}, {1, 3}, {1, 3}}, [][]int{{}, {1, 3}, {1, 3}}},
		{"a row of their own", "@0:\n  trap\n@1:\n  jump @2\n@2:\n  jump @3\n@3:\n  ret %9\n", [][]int{{}, {9}, {9}, {9}}, [][]int{{}, {9}, {9}, {}}},
	} {
		c.holds(t)
	}
}

// phis is a program with phis at places, and its sets, written out.
type phis struct {
	name    string
	text    string
	phis    map[int][]ir.Phi
	in, out [][]int
}

func (c phis) holds(t *testing.T) {
	t.Helper()
	p := read(t, c.text, c.phis)
	are(t, c.name, Of(p), c.in, c.out)
	holds(t, c.name, p)
}

const meet = "@10:\n  br %1, @20, @30\n@20:\n  jump @40\n@30:\n  jump @40\n@40:\n  ret %5\n"

// P11.1: Out has, of each block behind, its In without what its phis set, and the registers that these have from this label, and from no other.
func TestPhis(t *testing.T) {
	for _, c := range []phis{
		{"one of two ways each", meet, map[int][]ir.Phi{3: {{Dst: 5, From: []int{20, 30}, Args: []int{2, 3}}}},
			[][]int{{1, 2, 3}, {2}, {3}, {5}}, [][]int{{2, 3}, {2}, {3}, {}}},
		{"from one way alone", meet, map[int][]ir.Phi{3: {{Dst: 5, From: []int{30}, Args: []int{3}}}},
			[][]int{{1, 3}, {}, {3}, {5}}, [][]int{{3}, {}, {3}, {}}},
		{"from nowhere", meet, map[int][]ir.Phi{3: {{Dst: 5}}},
			[][]int{{1}, {}, {}, {5}}, [][]int{{}, {}, {}, {}}},
		{"from a block that isn't ahead", meet, map[int][]ir.Phi{3: {{Dst: 5, From: []int{10, 20, 30, 40}, Args: []int{6, 2, 3, 7}}}},
			[][]int{{1, 2, 3}, {2}, {3}, {5}}, [][]int{{2, 3}, {2}, {3}, {}}},
		{"never read", meet, map[int][]ir.Phi{3: {{Dst: 9, From: []int{20, 30}, Args: []int{2, 3}}}},
			[][]int{{1, 2, 3, 5}, {2, 5}, {3, 5}, {5}}, [][]int{{2, 3, 5}, {2, 5}, {3, 5}, {}}},
		{"sets what it has from one", meet, map[int][]ir.Phi{3: {{Dst: 5, From: []int{20, 30}, Args: []int{5, 3}}}},
			[][]int{{1, 3, 5}, {5}, {3}, {5}}, [][]int{{3, 5}, {5}, {3}, {}}},
		{"the same of both", meet, map[int][]ir.Phi{3: {{Dst: 5, From: []int{20, 30}, Args: []int{2, 2}}}},
			[][]int{{1, 2}, {2}, {2}, {5}}, [][]int{{2}, {2}, {2}, {}}},
		{"two, each of which has what the other one sets", meet, map[int][]ir.Phi{3: {{Dst: 5, From: []int{20, 30}, Args: []int{6, 3}}, {Dst: 6, From: []int{20, 30}, Args: []int{5, 4}}}},
			[][]int{{1, 3, 4, 5, 6}, {5, 6}, {3, 4}, {5}}, [][]int{{3, 4, 5, 6}, {5, 6}, {3, 4}, {}}},
		{"two that set one", meet, map[int][]ir.Phi{3: {{Dst: 5, From: []int{20}, Args: []int{2}}, {Dst: 5, From: []int{30}, Args: []int{3}}}},
			[][]int{{1, 2, 3}, {2}, {3}, {5}}, [][]int{{2, 3}, {2}, {3}, {}}},
		{"in the block in between, whose In is behind it", meet, map[int][]ir.Phi{1: {{Dst: 5, From: []int{10}, Args: []int{8}}}},
			[][]int{{1, 5, 8}, {5}, {5}, {5}}, [][]int{{5, 8}, {5}, {5}, {}}},
	} {
		c.holds(t)
	}
}

// P11.1: what a phi has is set in the block that it comes from, or read there, too.
func TestPhisOfInstrs(t *testing.T) {
	text := "@0:\n  %2 = in\n  %3 = in\n  br %2, @1, @2\n@1:\n  %4 = add %2, %2\n  jump @2\n@2:\n  out %5\n  %6 = %5\n  ret %6\n"
	phis{"set where it comes from", text, map[int][]ir.Phi{2: {{Dst: 5, From: []int{0, 1}, Args: []int{3, 4}}}},
		[][]int{{}, {2}, {5}}, [][]int{{2, 3}, {4}, {}}}.holds(t)
	phis{"the same block, both ways", text, map[int][]ir.Phi{1: {{Dst: 2, From: []int{0}, Args: []int{2}}}, 2: {{Dst: 5, From: []int{0, 1}, Args: []int{3, 2}}}},
		[][]int{{}, {2}, {5}}, [][]int{{2, 3}, {2}, {}}}.holds(t)
}

// P11.1: phis of rounds: what comes in, and what comes round.
func TestPhisOfRounds(t *testing.T) {
	round := "@0:\n  %0 = in\n  jump @1\n@1:\n  %2 = sub %1, %7\n  br %2, @1, @2\n@2:\n  ret %1\n"
	for _, c := range []phis{
		{"a block that goes on at itself", round, map[int][]ir.Phi{1: {{Dst: 1, From: []int{0, 1}, Args: []int{0, 2}}}},
			[][]int{{7}, {1, 7}, {1}}, [][]int{{0, 7}, {1, 2, 7}, {}}},
		{"it has itself", round, map[int][]ir.Phi{1: {{Dst: 1, From: []int{0, 1}, Args: []int{0, 1}}}},
			[][]int{{7}, {1, 7}, {1}}, [][]int{{0, 7}, {1, 7}, {}}},
		{"entries from itself alone", round, map[int][]ir.Phi{1: {{Dst: 1, From: []int{1}, Args: []int{7}}}},
			[][]int{{7}, {1, 7}, {1}}, [][]int{{7}, {1, 7}, {}}},
		{"the first, that nothing is ahead of", round, map[int][]ir.Phi{0: {{Dst: 7, From: []int{0, 1}, Args: []int{8, 9}}}},
			[][]int{{1, 7}, {1, 7}, {1}}, [][]int{{1, 7}, {1, 7}, {}}},
		{"the first, that one comes back to", "@0:\n  out %1\n  jump @0\n", map[int][]ir.Phi{0: {{Dst: 1, From: []int{0}, Args: []int{2}}}},
			[][]int{{1, 2}}, [][]int{{2}}},
		{"both labels the same", "@0:\n  br %1, @1, @1\n@1:\n  ret %2\n", map[int][]ir.Phi{1: {{Dst: 2, From: []int{0}, Args: []int{3}}}},
			[][]int{{1, 3}, {2}}, [][]int{{3}, {}}},
		{"one that isn't reached", "@0:\n  jump @2\n@1:\n  jump @2\n@2:\n  ret %2\n", map[int][]ir.Phi{2: {{Dst: 2, From: []int{0, 1}, Args: []int{3, 4}}}},
			[][]int{{3}, {4}, {2}}, [][]int{{3}, {4}, {}}},
	} {
		c.holds(t)
	}
}

// P11.1: one block goes on at two that have phis: it has the registers of both.
func TestPhisOfBoth(t *testing.T) {
	text := "@0:\n  br %0, @1, @2\n@1:\n  ret %1\n@2:\n  br %1, @1, @2\n"
	phis{"two blocks with phis behind one", text,
		map[int][]ir.Phi{1: {{Dst: 1, From: []int{0, 2}, Args: []int{10, 12}}}, 2: {{Dst: 1, From: []int{0, 2}, Args: []int{20, 22}}}},
		[][]int{{0, 10, 12, 20, 22}, {1}, {1, 12, 22}}, [][]int{{10, 12, 20, 22}, {}, {12, 22}}}.holds(t)
	phis{"what one's phis set is read behind the other", text,
		map[int][]ir.Phi{1: {{Dst: 1, From: []int{0, 2}, Args: []int{10, 12}}}},
		[][]int{{0, 1, 10, 12}, {1}, {1, 12}}, [][]int{{1, 10, 12}, {}, {1, 12}}}.holds(t)
}

// P11.1: In is what Each tells of Out, of each block.
func TestInIsEachOfOut(t *testing.T) {
	for seed := range 200 {
		roll := dice(uint64(seed) + 11)
		p := anyProgram(roll, 1+roll(30), 1+roll(20))
		s := Of(p)
		for i, b := range p.Blocks {
			is(t, "P11.1: In, by Each of Out", s.In[i], Each(b, s.Out[i], nil).List()...)
		}
	}
}
