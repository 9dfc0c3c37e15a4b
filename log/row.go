package log

import (
	"slices"
)

// row is whatever there is, in the order in which it came.
type row[T any] struct {
	items []T
}

// add lays one behind the others: in new memory, so that a row that was given to another one stays what it was.
func (r *row[T]) add(item T) {
	n := len(r.items)
	r.items = append(r.items[:n:n], item)
}

// count is how many there are.
func (r *row[T]) count() int {
	return len(r.items)
}

// all is what there is.
func (r *row[T]) all() []T {
	return slices.Clone(r.items)
}

// next takes the first one.
func (r *row[T]) next() (T, bool) {
	if len(r.items) == 0 {
		var none T
		return none, false
	}
	first := r.items[0]
	r.items = r.items[1:]
	return first, true
}

// give is what there is, which goes.
func (r *row[T]) give() []T {
	items := r.items
	r.items = nil
	return items
}
