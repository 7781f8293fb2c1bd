package cache

import "slices"

// row is things one behind the other, each of them once, from the oldest to the newest.
type row[T comparable] struct{ things []T }

// oldest is the first one. There has to be one.
func (r *row[T]) oldest() T { return r.things[0] }

// renew makes x the newest one, wherever it stood, or if it did not.
func (r *row[T]) renew(x T) {
	r.drop(x)
	r.things = append(r.things, x)
}

// drop takes x out, if it is there.
func (r *row[T]) drop(x T) {
	if i := slices.Index(r.things, x); i >= 0 {
		r.things = slices.Delete(r.things, i, i+1)
	}
}

// all is a list of them, that is not the row's own.
func (r *row[T]) all() []T { return slices.Clone(r.things) }
