package prop

import (
	"cmp"

	"florilegium/api"
)

// Compare gives -1, 0 or 1, as a is below b, equal to it or above it.
func Compare(a, b api.Value) int {
	if a.Kind == api.List && b.Kind == api.List {
		return compareLists(a.Items, b.Items)
	}
	return compareSingle(a, b)
}

// compareSingle compares two values of which one at most is a List.
func compareSingle(a, b api.Value) int {
	if a.Kind != b.Kind {
		return cmp.Compare(a.Kind, b.Kind)
	}
	switch a.Kind {
	case api.Flag, api.Number, api.Date:
		return cmp.Compare(a.Int, b.Int)
	case api.Span:
		return cmp.Or(cmp.Compare(a.Int, b.Int), cmp.Compare(a.To, b.To))
	case api.String, api.Link:
		return cmp.Compare(a.Text, b.Text)
	}
	return 0
}

// listPair is what is left of two lists.
type listPair struct{ a, b []api.Value }

// compareLists keeps what it still has to compare of the lists around the
// present ones: wrong values can be nested deeper than calls can be.
func compareLists(a, b []api.Value) int {
	todo := []listPair{{a, b}}
	for len(todo) > 0 {
		last := &todo[len(todo)-1]
		if len(last.a) == 0 || len(last.b) == 0 {
			if len(last.a) != len(last.b) {
				return cmp.Compare(len(last.a), len(last.b))
			}
			todo = todo[:len(todo)-1]
			continue
		}
		x, y := last.a[0], last.b[0]
		last.a, last.b = last.a[1:], last.b[1:]
		if x.Kind == api.List && y.Kind == api.List {
			todo = append(todo, listPair{x.Items, y.Items})
		} else if order := compareSingle(x, y); order != 0 {
			return order
		}
	}
	return 0
}

// In asks whether v is from low to high, where None is no bound.
func In(v, low, high api.Value) bool {
	if low.Kind != api.None && (low.Kind != v.Kind || Compare(v, low) < 0) {
		return false
	}
	if high.Kind != api.None && (high.Kind != v.Kind || Compare(v, high) > 0) {
		return false
	}
	return true
}

// Meets asks whether two values have a day in common.
func Meets(a, b api.Value) bool {
	fromA, toA, ok := daysOf(a)
	fromB, toB, also := daysOf(b)
	return ok && also && max(fromA, fromB) <= min(toA, toB)
}

// daysOf gives the first and the last day of a Date or a Span.
func daysOf(v api.Value) (from, to int, ok bool) {
	switch v.Kind {
	case api.Date:
		return v.Int, v.Int, true
	case api.Span:
		return v.Int, v.To, true
	}
	return 0, 0, false
}
