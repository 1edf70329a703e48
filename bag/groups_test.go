package bag

import (
	"math"
	"testing"
)

// parts: a group's number for each of some items, the slow way.
type parts []int

func (p parts) join(x, y int) bool {
	from, to := p[x], p[y]
	for i := range p {
		if p[i] == from {
			p[i] = to
		}
	}
	return from != to
}

func (p parts) least(x int) int {
	for i := range p {
		if p[i] == p[x] {
			return i
		}
	}
	return -1
}

// P2.3: all rows of four joins of four items, looked at behind each, or at the end alone.
func TestJoins(t *testing.T) {
	const n = 4
	for row := range 1 << 16 {
		for _, late := range []bool{false, true} {
			var g Groups[int]
			p := parts{0, 1, 2, 3}
			for r, k := row, 0; k < 4; k++ {
				x, y := r%n, r/n%n
				r /= n * n
				if g.Join(x, y) != p.join(x, y) {
					t.Fatalf("row %x: Join %d, %d", row, x, y)
				}
				for z := 0; z < n && (k == 3 || !late); z++ {
					if g.Find(z) != p.least(z) {
						t.Fatalf("row %x: Find %d: %d, want %d", row, z, g.Find(z), p.least(z))
					}
				}
			}
		}
	}
}

// P2.3: items that were never joined are alone.
func TestAlone(t *testing.T) {
	var g Groups[int]
	for _, x := range []int{0, 5, -5, math.MinInt, math.MaxInt} {
		if g.Find(x) != x || g.Join(x, x) {
			t.Errorf("%d isn't alone", x)
		}
	}
	g.Join(1, 3)
	if g.Find(2) != 2 || g.Find(0) != 0 || g.Find(4) != 4 {
		t.Error("another is joined, too")
	}
}

// P2.3: chains from either end and from all sides, closed to rings.
func TestChainsAndRings(t *testing.T) {
	const n = 20000
	order := map[string]func(i int) int{
		"rising":  func(i int) int { return i },
		"falling": func(i int) int { return n - 2 - i },
		"strewn":  func(i int) int { return i * 7919 % (n - 1) },
	}
	for name, at := range order {
		var g Groups[int]
		for i := range n - 1 {
			x := at(i) - n/2
			if !g.Join(x, x+1) {
				t.Fatalf("%s: Join %d, %d", name, x, x+1)
			}
		}
		if g.Join(n/2-1, -n/2) || g.Join(-n/2, n/2-1) {
			t.Errorf("%s: the ring is joined twice", name)
		}
		for x := n/2 - 1; x >= -n/2; x-- {
			if g.Find(x) != -n/2 {
				t.Fatalf("%s: Find %d: %d", name, x, g.Find(x))
			}
		}
		if g.Find(n/2) != n/2 || !g.Join(n/2, 0) || g.Find(n/2) != -n/2 {
			t.Errorf("%s: one behind the chain", name)
		}
	}
}

// P2.3: two groups, then one; the least of both is the least of it, whichever is named first.
func TestGroupsJoined(t *testing.T) {
	for _, turn := range []bool{false, true} {
		var g Groups[string]
		g.Join("d", "b")
		g.Join("c", "")
		g.Join("e", "d")
		if g.Find("e") != "b" || g.Find("b") != "b" || g.Find("c") != "" || g.Find("") != "" {
			t.Error("two groups")
		}
		x, y := "e", "c"
		if turn {
			x, y = y, x
		}
		if !g.Join(x, y) || g.Join(y, x) || g.Join("b", "") {
			t.Error("not joined once")
		}
		for _, z := range []string{"", "b", "c", "d", "e"} {
			if g.Find(z) != "" {
				t.Errorf("Find %s: %s", z, g.Find(z))
			}
		}
		if g.Find("a") != "a" {
			t.Error("one that was never joined")
		}
	}
}

// R7: a nil one has nothing, and nothing is put into it.
func TestNilGroups(t *testing.T) {
	var g *Groups[int]
	if g.Join(2, 1) || g.Join(1, 1) || g.Find(2) != 2 {
		t.Error("nil groups took something")
	}
}

// P1: what isn't the same as itself is no item, but each call ends.
func TestGroupsEndOnNoItem(t *testing.T) {
	no := math.NaN()
	var g Groups[float64]
	g.Join(no, no)
	g.Join(no, 1)
	g.Join(2, no)
	g.Find(no)
	g.Join(1, 2)
	if g.Find(2) != g.Find(1) || g.Find(3) != 3 {
		t.Error("the items are gone")
	}
	if g.Join(0, math.Copysign(0, -1)) || !g.Join(0, 1) || g.Find(2) != 0 {
		t.Error("0 and -0 are the same")
	}
}
