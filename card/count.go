package card

import (
	"florilegium/api"
)

// oldStep is the least Step of an old card.
const oldStep = 21

// Loads gives how many states are due on each of some days. Those that are late count on the first one.
func Loads(l []State, from, days int) ([]int, api.Errno) {
	if bad := checkOn(l, from); bad != api.OK {
		return nil, bad
	}
	if !isYear(days) {
		return nil, api.ErrRange
	}
	loads := make([]int, days)
	for _, x := range l {
		wait := max(x.Due-from, 0)
		if x.wasAsked() && wait < days {
			loads[wait]++
		}
	}
	return loads, api.OK
}

// Leeches gives the positions of the states that were forgotten so many times.
func Leeches(l []State, lapses int) ([]int, api.Errno) {
	if bad := CheckStates(l); bad != api.OK {
		return nil, bad
	}
	if lapses < 1 {
		return nil, api.ErrRange
	}
	var leeches []int
	for at, x := range l {
		if x.Lapses >= lapses {
			leeches = append(leeches, at)
		}
	}
	return leeches, api.OK
}

// Counts gives how many states there are of each kind.
func Counts(l []State, day int) (Count, api.Errno) {
	if bad := checkOn(l, day); bad != api.OK {
		return Count{}, bad
	}
	var count Count
	for _, x := range l {
		switch {
		case !x.wasAsked():
			count.New++
		case x.Step == 0:
			count.Learning++
		case x.Step < oldStep:
			count.Young++
		default:
			count.Old++
		}
		if x.isAskedFor(day) {
			count.Due++
		}
	}
	return count, api.OK
}

// Kept gives how many reviews of some days were good enough, and how many there are.
func Kept(l []Review, from, to int) (good, all int, e api.Errno) {
	if len(l) > MaxReviews {
		return 0, 0, api.ErrLarge
	}
	if to < from {
		return 0, 0, api.ErrOrder
	}
	for _, review := range l {
		if !isFrom(review.Day, from, to) {
			continue
		}
		all++
		if review.Grade > Again {
			good++
		}
	}
	return good, all, api.OK
}
