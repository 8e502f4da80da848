package ask

import (
	"cmp"
	"slices"

	"florilegium/prop"
)

// sortNotes sorts by the first sort, then by the second one, and so on, then as it was.
func sortNotes(l []*note, sorts []Sort) {
	slices.SortStableFunc(l, func(a, b *note) int {
		for _, s := range sorts {
			if order := s.comparison()(s, a, b); order != 0 {
				return order
			}
		}
		return 0
	})
}

// comparison gives how a sort compares two notes.
func (s Sort) comparison() func(s Sort, a, b *note) int {
	switch s.By {
	case ById:
		return Sort.compareIds
	case ByText:
		return Sort.compareTexts
	case ByDepth:
		return Sort.compareDepths
	default: // a property
		return Sort.compareValues
	}
}

func (s Sort) compareIds(a, b *note) int {
	return s.turned(cmp.Compare(a.block.Id, b.block.Id))
}

func (s Sort) compareTexts(a, b *note) int {
	return s.turned(cmp.Compare(a.says().plain, b.says().plain))
}

func (s Sort) compareDepths(a, b *note) int {
	return s.turned(cmp.Compare(a.depth, b.depth))
}

// compareValues has those without a value last, whether Down or not.
func (s Sort) compareValues(a, b *note) int {
	ofA, hasA := a.value(s.By)
	ofB, hasB := b.value(s.By)
	switch {
	case hasA && hasB:
		return s.turned(prop.Compare(ofA, ofB))
	case hasA:
		return -1
	case hasB:
		return 1
	}
	return 0
}

func (s Sort) turned(order int) int {
	if s.Down {
		return -order
	}
	return order
}
