package bag

import "iter"

// Queue is items, first in, first out, each once at a time.
type Queue[T comparable] struct {
	items []T
	waits map[T]struct{}
}

// Put: an item behind all; false: it waits already.
func (q *Queue[T]) Put(x T) (put bool) {
	if q == nil {
		return false
	}
	// What can't be held against another (a list, as an interface value) panics when it is looked up, ahead of any change: it is not put in.
	defer func() { _ = recover() }()
	if _, waits := q.waits[x]; waits {
		return false
	}
	if q.waits == nil {
		q.waits = map[T]struct{}{}
	}
	q.waits[x] = struct{}{}
	q.items = append(q.items, x)
	return true
}

// Take: the first; false: there is none.
func (q *Queue[T]) Take() (T, bool) {
	var none T
	if q.Len() == 0 {
		return none, false
	}
	x := q.items[0]
	q.items[0] = none // what it points to isn't kept
	q.items = q.items[1:]
	delete(q.waits, x)
	return x, true
}

// Len: how many wait.
func (q *Queue[T]) Len() int {
	if q == nil {
		return 0
	}
	return len(q.items)
}

// Drain: one after the other, those that are put in meanwhile too.
func (q *Queue[T]) Drain() iter.Seq[T] {
	return func(yield func(T) bool) {
		if yield == nil {
			return
		}
		for {
			x, ok := q.Take()
			if !ok || !yield(x) {
				return
			}
		}
	}
}
