package dom

import "refinery/graph"

// forest is the places that were gone through, named in the order in which they are met, so that each is named less than those met behind it. (The way is Lengauer's and Tarjan's: it takes little more than a step for each join, whatever the graph's shape.)
type forest struct {
	// Of each the one that it hangs on; -1: none yet. Ways up are made shorter by best.
	root []int
	// Of each the least one from which one comes to it by greater ones alone.
	least []int
	// Of each the one with the least such one, of those on the shortened way up.
	fit []int
	// What best goes through, kept to be used again.
	way []int
}

func planted(n int) *forest {
	f := &forest{root: make([]int, n), least: make([]int, n), fit: make([]int, n)}
	for v := range n {
		f.root[v], f.least[v], f.fit[v] = -1, v, v
	}
	return f
}

// best: of those from v up to, but not with, the one that hangs on none, the one whose least is the least; v, if it hangs on none.
func (f *forest) best(v int) int {
	if f.root[v] < 0 {
		return v
	}
	f.way = f.way[:0]
	for x := v; f.root[f.root[x]] >= 0; x = f.root[x] {
		f.way = append(f.way, x)
	}
	for i := range len(f.way) {
		x := f.way[len(f.way)-1-i]
		up := f.root[x]
		if f.least[f.fit[up]] < f.least[f.fit[x]] {
			f.fit[x] = f.fit[up]
		}
		f.root[x] = f.root[up]
	}
	return f.fit[v]
}

// nearest: of each of those that are met (one at least), the nearest one through which each way goes; -1 of the first. Both by their places in met.
func nearest(g graph.Graph, met []int) []int {
	named := names(met)
	f, near := planted(len(met)), make([]int, len(met))
	waiting := make([][]int, len(met))
	near[0] = -1
	for i := range len(met) - 1 {
		v := len(met) - 1 - i
		parent := f.look(v, g.Ahead(met[v]), named)
		waiting[f.least[v]] = append(waiting[f.least[v]], v)
		f.root[v] = parent
		f.settle(near, waiting[parent], parent)
		waiting[parent] = nil
	}
	for v := range len(met) {
		if v > 0 && near[v] != f.least[v] {
			near[v] = near[near[v]]
		}
	}
	return near
}

func names(met []int) map[int]int {
	named := map[int]int{}
	for v := range len(met) {
		named[met[v]] = v
	}
	return named
}

// look: finds v's least by those ahead of it, and answers the one from which it was met: the last one met of those ahead of it that are met ahead of it (those met between had gone on everywhere by then).
func (f *forest) look(v int, ahead []int, named map[int]int) int {
	parent := 0
	for _, place := range ahead {
		u, ok := named[place]
		if !ok {
			continue
		}
		if u < v {
			parent = max(parent, u)
		}
		f.least[v] = min(f.least[v], f.least[f.best(u)])
	}
	return parent
}

// settle: those whose least is parent have it as their nearest, unless one between them has a lesser one: then its nearest, which isn't known yet, is theirs.
func (f *forest) settle(near, waiting []int, parent int) {
	for _, v := range waiting {
		near[v] = parent
		if u := f.best(v); f.least[u] < f.least[v] {
			near[v] = u
		}
	}
}
