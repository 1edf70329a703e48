package graph

import (
	"iter"
	"slices"
)

// longest is how long a list of Reached may be: nothing is promised of more, and there may be no room for it.
const longest = 1<<31 - 1

// step is a place on the way from the first, and those behind it that are still to be tried.
type step struct {
	place int
	rest  []int
}

// walk is a way through a graph, depth first: the places as they are met, and as they are left.
type walk struct {
	graph     Graph
	seen      map[int]struct{}
	way       []step
	met, left []int
}

func (g Graph) walked() walk {
	w := walk{graph: g, seen: map[int]struct{}{}}
	if g.has(0) {
		w.meet(0)
	}
	// The way is a list rather than calls within calls: a graph may be deeper than these can go.
	for len(w.way) > 0 {
		w.move()
	}
	return w
}

func (w *walk) meet(place int) {
	if _, seen := w.seen[place]; seen {
		return
	}
	w.seen[place] = struct{}{}
	w.met = append(w.met, place)
	w.way = append(w.way, step{place, w.graph.behind[place]})
}

// move: on to the next behind the way's last place, or back, if there is none.
func (w *walk) move() {
	last := &w.way[len(w.way)-1]
	if len(last.rest) == 0 {
		w.left = append(w.left, last.place)
		w.way = w.way[:len(w.way)-1]
		return
	}
	next := last.rest[0]
	last.rest = last.rest[1:]
	w.meet(next)
}

// Order: the places that are reached from the first, each ahead of those behind it, but where it goes in rounds: the other way round than they are left, depth first.
func (g Graph) Order() []int {
	l := g.walked().left
	slices.Reverse(l)
	return l
}

// First: the places that are reached from the first, as they are met, depth first.
func (g Graph) First() iter.Seq[int] {
	// They are gone through behind this call, when more may be joined: they are those of the call.
	l := g.walked().met
	return func(yield func(int) bool) {
		if yield == nil {
			return
		}
		for _, i := range l {
			if !yield(i) {
				return
			}
		}
	}
}

// Reached: which ones are.
func (g Graph) Reached() []bool {
	if g.places > longest {
		return nil
	}
	l := make([]bool, g.places)
	for _, i := range g.walked().met {
		l[i] = true
	}
	return l
}
