package day

import (
	"florilegium/api"
)

// CheckRule says whether a rule is right.
func CheckRule(r Rule) api.Errno {
	if r.Unit < Days || r.Unit > Years {
		return api.ErrKind
	}
	if r.Every < 1 || r.Every > MaxEvery || !isDay(r.From) {
		return api.ErrRange
	}
	if r.Until != noDay && !isDay(r.Until) || r.Count < 0 || r.Count > MaxDays {
		return api.ErrRange
	}
	if !isOfForm(r) {
		return api.ErrForm
	}
	if bad := checkRising(r.Weekdays, isWeekday); bad != api.OK {
		return bad
	}
	if bad := checkRising(r.Dates, isDate); bad != api.OK {
		return bad
	}
	if r.Nth < -5 || r.Nth > 5 {
		return api.ErrRange
	}
	if len(r.Skip) > MaxSkip {
		return api.ErrLarge
	}
	return checkRising(r.Skip, isDay)
}

// isOfForm asks whether a rule has nothing that its unit does not use, and an Nth just where that is used.
func isOfForm(r Rule) bool {
	hasWeekdays := len(r.Weekdays) > 0
	if hasWeekdays && r.Unit != Weeks && r.Unit != Months {
		return false
	}
	if len(r.Dates) > 0 && (r.Unit != Months || hasWeekdays) {
		return false
	}
	return (r.Nth != 0) == (hasWeekdays && r.Unit == Months)
}

// checkRising looks at numbers one by one: each must be right, and above the one before.
func checkRising(l []int, isRight func(n int) bool) api.Errno {
	for i, n := range l {
		if !isRight(n) {
			return api.ErrRange
		}
		if i > 0 && n <= l[i-1] {
			return api.ErrOrder
		}
	}
	return api.OK
}

// noDay stands for a day where there is none.
const noDay = -1

func isDay(n int) bool {
	return 0 <= n && n <= api.MaxDay
}

func isWeekday(n int) bool {
	return 0 <= n && n <= 6
}

func isDate(n int) bool {
	return -31 <= n && n <= 31 && n != 0
}
