package card

import (
	"cmp"
	"slices"

	"florilegium/api"
)

// compareIds says which one of two cards comes first.
func compareIds(a, b cardId) int {
	return cmp.Or(cmp.Compare(a.block, b.block), cmp.Compare(a.no, b.no))
}

// CheckStates says whether a list of states is right.
func CheckStates(l []State) api.Errno {
	if len(l) > MaxStates {
		return api.ErrLarge
	}
	for i, x := range l {
		if bad := CheckState(x); bad != api.OK {
			return bad
		}
		if i > 0 && compareIds(l[i-1].id(), x.id()) >= 0 {
			return api.ErrOrder
		}
	}
	return api.OK
}

// checkAt is CheckStates for a function that also needs a position.
func checkAt(l []State, at int) api.Errno {
	if bad := CheckStates(l); bad != api.OK {
		return bad
	}
	if at < 0 || at >= len(l) {
		return api.ErrNone
	}
	return api.OK
}

// checkOn is CheckStates for a function that also needs a day.
func checkOn(l []State, day int) api.Errno {
	if bad := CheckStates(l); bad != api.OK {
		return bad
	}
	if !isDay(day) {
		return api.ErrRange
	}
	return api.OK
}

// Keep gives the states of some cards, and those of others.
func Keep(l []State, cards []Card) ([]State, []State, api.Errno) {
	if bad := CheckStates(l); bad != api.OK {
		return nil, nil, bad
	}
	wanted, bad := idsOf(cards)
	if bad != api.OK {
		return nil, nil, bad
	}
	var kept, others []State
	for _, x := range l {
		if wanted[x.id()] {
			kept = append(kept, x)
			delete(wanted, x.id())
		} else {
			others = append(others, x)
		}
	}
	for id := range wanted {
		kept = append(kept, fresh(id))
	}
	slices.SortFunc(kept, func(a, b State) int { return compareIds(a.id(), b.id()) })
	return kept, others, api.OK
}

// idsOf gives which ones some cards are.
func idsOf(cards []Card) (map[cardId]bool, api.Errno) {
	if len(cards) > MaxStates {
		return nil, api.ErrLarge
	}
	ids := make(map[cardId]bool, len(cards))
	for _, card := range cards {
		if !card.id().isRight() {
			return nil, api.ErrRange
		}
		if ids[card.id()] {
			return nil, api.ErrTwice
		}
		ids[card.id()] = true
	}
	return ids, api.OK
}

// Join gives the states of two lists.
func Join(a, b []State) ([]State, api.Errno) {
	if bad := CheckStates(a); bad != api.OK {
		return nil, bad
	}
	if bad := CheckStates(b); bad != api.OK {
		return nil, bad
	}
	// Of the states of one card the one that is left comes first.
	joined := slices.Concat(a, b)
	slices.SortStableFunc(joined, func(x, y State) int {
		return cmp.Or(compareIds(x.id(), y.id()), cmp.Compare(y.Last, x.Last), cmp.Compare(y.Times, x.Times))
	})
	joined = slices.CompactFunc(joined, func(x, y State) bool { return x.id() == y.id() })
	if len(joined) > MaxStates {
		return nil, api.ErrLarge
	}
	return joined, api.OK
}

// GradeAt gives a list with a grade of one of its states.
func GradeAt(l []State, at, grade, day int) ([]State, api.Errno) {
	if bad := checkAt(l, at); bad != api.OK {
		return nil, bad
	}
	x, bad := Grade(l[at], grade, day)
	if bad != api.OK {
		return nil, bad
	}
	l = slices.Clone(l)
	l[at] = x
	return l, api.OK
}

// Bury gives a list of which one card is not asked up to a day.
func Bury(l []State, at, day int) ([]State, api.Errno) {
	if bad := checkAt(l, at); bad != api.OK {
		return nil, bad
	}
	if !isDay(day) {
		return nil, api.ErrRange
	}
	l = slices.Clone(l)
	l[at].Buried = day
	return l, api.OK
}
