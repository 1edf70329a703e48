package bag

import "cmp"

// Groups are items, each in one group.
type Groups[T cmp.Ordered] struct {
	below map[T]lesser[T] // the least of a group has no entry
}

// lesser is an item of the same group that is less.
type lesser[T cmp.Ordered] struct {
	item T
}

// Find: the least of an item's group.
func (g *Groups[T]) Find(x T) T {
	if g == nil {
		return x
	}
	for {
		next, ok := g.below[x]
		if !ok {
			return x
		}
		// Each second one is passed over from now on, so that ways stay short.
		if after, ok := g.below[next.item]; ok {
			g.below[x] = after
			next = after
		}
		x = next.item
	}
}

// Join: two items' groups are one; false: they are already.
func (g *Groups[T]) Join(x, y T) bool {
	if g == nil {
		return false
	}
	x, y = g.Find(x), g.Find(y)
	if x == y {
		return false
	}
	if g.below == nil {
		g.below = map[T]lesser[T]{}
	}
	g.below[max(x, y)] = lesser[T]{min(x, y)}
	return true
}
