package copy

import (
	"slices"
)

// A row is an ordered list. What is new in it comes to its beginning, directly
// after something else, or to its end.
type row[T any] []T

// putFirst makes x the first one.
func (r *row[T]) putFirst(x T) {
	*r = slices.Insert(*r, 0, x)
}

// putAfter puts x directly after the first one that is the left one, or at the end, if none is.
func (r *row[T]) putAfter(x T, isLeft func(T) bool) {
	at := len(*r)
	if left := slices.IndexFunc(*r, isLeft); left >= 0 {
		at = left + 1
	}
	*r = slices.Insert(*r, at, x)
}
