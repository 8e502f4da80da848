package card

import (
	"cmp"
	"slices"

	"florilegium/api"
)

// isAskedFor asks whether a card that was asked before is to be asked on a day.
func (x State) isAskedFor(day int) bool {
	return x.wasAsked() && x.Due <= day && x.Buried < day
}

// Due gives the positions of the states that are asked for on a day.
func Due(l []State, day int) ([]int, api.Errno) {
	if bad := checkOn(l, day); bad != api.OK {
		return nil, bad
	}
	return dueOn(l, day), api.OK
}

// dueOn is Due of a right list.
func dueOn(l []State, day int) []int {
	var due []int
	for at, x := range l {
		if x.isAskedFor(day) {
			due = append(due, at)
		}
	}
	slices.SortFunc(due, func(a, b int) int {
		return cmp.Or(cmp.Compare(l[a].Due, l[b].Due), cmp.Compare(l[a].Ease, l[b].Ease), cmp.Compare(a, b))
	})
	return due
}

// Today gives the positions of the states that are asked on a day.
func Today(l []State, done []Review, day int, b Bounds) ([]int, api.Errno) {
	if bad := checkOn(l, day); bad != api.OK {
		return nil, bad
	}
	if !b.areRight() {
		return nil, api.ErrRange
	}
	if len(done) > MaxReviews {
		return nil, api.ErrLarge
	}
	return todayOf(l, day, b.less(done, day)), api.OK
}

func (b Bounds) areRight() bool {
	return isFrom(b.New, 0, MaxStates) && isFrom(b.All, 0, MaxStates)
}

// less gives what is left of the bounds of a day after some reviews.
func (b Bounds) less(done []Review, day int) Bounds {
	seen := map[cardId]bool{}
	for _, review := range done {
		if review.Day == day {
			b.All--
			if !seen[review.id()] {
				b.New--
			}
		}
		seen[review.id()] = true
	}
	return Bounds{New: max(b.New, 0), All: max(b.All, 0)}
}

// todayOf gives the positions of the states of a right list that are asked on a day on which
// nothing is done yet.
func todayOf(l []State, day int, b Bounds) []int {
	today := dueOn(l, day)
	today = today[:min(len(today), b.All)]
	most := min(len(today)+b.New, b.All)
	for at, x := range l {
		if len(today) < most && !x.wasAsked() && x.Buried < day {
			today = append(today, at)
		}
	}
	return today
}

// Simulate gives what comes of some days on which cards are asked.
func Simulate(l []State, grades []int, from, days int, b Bounds) ([]State, []int, api.Errno) {
	if bad := CheckStates(l); bad != api.OK {
		return nil, nil, bad
	}
	if bad := checkGrades(grades); bad != api.OK {
		return nil, nil, bad
	}
	if !isDay(from) || !isYear(days) || from+days > api.MaxDay || !b.areRight() {
		return nil, nil, api.ErrRange
	}
	l = slices.Clone(l)
	counts := make([]int, days)
	total := 0
	for i := range counts {
		// What was asked before was asked on other days, so each day has its bounds whole.
		today := todayOf(l, from+i, b)
		if total+len(today) > MaxReviews {
			return nil, nil, api.ErrFull
		}
		for _, at := range today {
			l[at] = graded(l[at], grades[total%len(grades)], from+i)
			total++
		}
		counts[i] = len(today)
	}
	return l, counts, api.OK
}

func checkGrades(grades []int) api.Errno {
	if len(grades) == 0 || len(grades) > MaxReviews {
		return api.ErrLarge
	}
	for _, grade := range grades {
		if !isGrade(grade) {
			return api.ErrKind
		}
	}
	return api.OK
}

// isYear asks whether so many days can be looked at.
func isYear(days int) bool {
	return isFrom(days, 0, MaxYear)
}
