package day

import (
	"iter"

	"florilegium/api"
)

// candidates goes through the candidates of a rule that count, in order. Where none of them
// must be counted, it begins not long before a day, and leaves out those before that.
func candidates(r Rule, from int) iter.Seq[int] {
	return func(yield func(day int) bool) {
		u := units()[r.Unit]
		turn := 0
		if r.Count == 0 && from > r.From {
			turn = (from - r.From) / (r.Every * u.longest)
		}
		last, counted := lastDay(r), 0
		for ; ; turn++ {
			start := u.start(r.From, turn*r.Every)
			if start > last {
				return
			}
			for _, day := range u.days(r, start) {
				if day < r.From {
					continue
				}
				if day > last || !yield(day) {
					return
				}
				if counted++; counted == r.Count {
					return
				}
			}
		}
	}
}

// lastDay gives the day after which a rule has no candidates.
func lastDay(r Rule) int {
	if r.Until == noDay {
		return api.MaxDay
	}
	return r.Until
}

// occurrences goes through the days from a day on on which a rule occurs, in order.
func occurrences(r Rule, from int) iter.Seq[int] {
	return func(yield func(day int) bool) {
		skip := r.Skip // of which those before the candidate are left out
	candidates:
		for day := range candidates(r, from) {
			for len(skip) > 0 && skip[0] <= day {
				if skip[0] == day {
					continue candidates
				}
				skip = skip[1:]
			}
			if day >= from && !yield(day) {
				return
			}
		}
	}
}

// between gives the days from one day to another one on which a rule occurs.
func between(r Rule, from, to int) []int {
	var days []int
	for day := range occurrences(r, from) {
		if day > to {
			break
		}
		days = append(days, day)
	}
	return days
}

// checkAt is CheckRule for a function that also needs a day.
func checkAt(r Rule, day int) api.Errno {
	if bad := CheckRule(r); bad != api.OK {
		return bad
	}
	if !isDay(day) {
		return api.ErrRange
	}
	return api.OK
}

// checkSpan looks at the days of Between and Agenda.
func checkSpan(from, to int) api.Errno {
	if !isDay(from) || !isDay(to) || to-from > MaxSpan {
		return api.ErrRange
	}
	if to < from {
		return api.ErrOrder
	}
	return api.OK
}

// Occurs says whether a rule occurs on a day.
func Occurs(r Rule, day int) (bool, api.Errno) {
	if bad := checkAt(r, day); bad != api.OK {
		return false, bad
	}
	return len(between(r, day, day)) > 0, api.OK
}

// Next gives the first day after a day on which a rule occurs.
func Next(r Rule, day int) (int, api.Errno) {
	if bad := checkAt(r, day); bad != api.OK {
		return 0, bad
	}
	for next := range occurrences(r, day+1) {
		return next, api.OK
	}
	return 0, api.ErrNone
}

// Before gives the last day before a day on which a rule occurs.
func Before(r Rule, day int) (int, api.Errno) {
	if bad := checkAt(r, day); bad != api.OK {
		return 0, bad
	}
	days := between(r, 0, day-1)
	if len(days) == 0 {
		return 0, api.ErrNone
	}
	return days[len(days)-1], api.OK
}

// Between gives the days from one day to another one on which a rule occurs.
func Between(r Rule, from, to int) ([]int, api.Errno) {
	if bad := CheckRule(r); bad != api.OK {
		return nil, bad
	}
	if bad := checkSpan(from, to); bad != api.OK {
		return nil, bad
	}
	return between(r, from, to), api.OK
}

// Number gives on how many days up to a day a rule occurs.
func Number(r Rule, day int) (int, api.Errno) {
	if bad := checkAt(r, day); bad != api.OK {
		return 0, bad
	}
	return len(between(r, 0, day)), api.OK
}
