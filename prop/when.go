package prop

import (
	"strings"

	"florilegium/api"
)

// Units of time, by their positions among the words of unitName.
const (
	dayUnit = iota
	weekUnit
	monthUnit
	yearUnit
)

// ReadWhen gives the first and the last day of what somebody types for days.
func ReadWhen(s string, today int) (from, to int, e api.Errno) {
	if len(s) > api.MaxBody {
		return 0, 0, api.ErrLarge
	}
	if !isDay(today) {
		return 0, 0, api.ErrRange
	}
	return daysTyped(lower(strings.Trim(s, " ")), today)
}

// daysTyped tries the forms of ReadWhen, in the order of their table.
func daysTyped(s string, today int) (from, to int, e api.Errno) {
	var n, weekday, unit, year, part int
	switch {
	case reads(s, oneOf(&n, "yesterday", "today", "tomorrow")):
		return oneDay(today + n - 1)
	case reads(s, weekdayName(&weekday)):
		return oneDay(firstFrom(today, weekday))
	case reads(s, mark("next "), weekdayName(&weekday)):
		return oneDay(firstFrom(today+1, weekday))
	case reads(s, mark("last "), weekdayName(&weekday)):
		return oneDay(firstFrom(today-7, weekday))
	case reads(s, mark("in "), countAbove0(&n), mark(" "), unitName(&unit), mayHaveS):
		return later(today, n, unit)
	case reads(s, countAbove0(&n), mark(" "), unitName(&unit), mayHaveS, mark(" ago")):
		return later(today, -n, unit)
	case reads(s, oneOf(&n, "last ", "this ", "next "), unitName(&unit)):
		return period(today, n-1, unit)
	case reads(s, digits(4, &year)):
		return wholeYear(year)
	case reads(s, digits(4, &year), mark("-"), digits(2, &part)):
		return wholeMonth(year, part)
	case reads(s, digits(4, &year), mark("-w"), digits(2, &part)):
		return wholeWeek(year, part)
	case reads(s, date(&from)):
		return oneDay(from)
	case reads(s, date(&from), mark(".."), date(&to)):
		return days(from, to)
	}
	return 0, 0, api.ErrSyntax
}

func weekdayName(into *int) step {
	return oneOf(into, "monday", "tuesday", "wednesday", "thursday", "friday", "saturday", "sunday")
}

func unitName(into *int) step {
	return oneOf(into, "day", "week", "month", "year")
}

// mayHaveS reads an s, if there is one.
func mayHaveS(s string) (string, bool) {
	return strings.TrimPrefix(s, "s"), true
}

// countAbove0 reads a number from 1 to 9999.
func countAbove0(into *int) step {
	read := wholeNumber(4, into)
	return func(s string) (string, bool) {
		rest, ok := read(s)
		return rest, ok && *into > 0
	}
}

// days gives two days, if they are days, and in order.
func days(from, to int) (int, int, api.Errno) {
	if !isDay(from) || !isDay(to) {
		return 0, 0, api.ErrRange
	}
	if to < from {
		return 0, 0, api.ErrOrder
	}
	return from, to, api.OK
}

func oneDay(day int) (int, int, api.Errno) {
	return days(day, day)
}

// firstFrom gives the first day with a weekday from a day on. (For one below 0
// % can be below 0, too.)
func firstFrom(day, weekday int) int {
	return day + ((weekday-day)%7+7)%7
}

// later gives the day that is n units after a day, or before it, if n is below 0.
func later(day, n, unit int) (int, int, api.Errno) {
	switch unit {
	case dayUnit:
		return oneDay(day + n)
	case weekUnit:
		return oneDay(day + 7*n)
	case yearUnit:
		n *= 12
	}
	day, bad := Months(day, n)
	return day, day, bad
}

// period gives all days of the unit that is so many after that of a day.
func period(day, shift, unit int) (int, int, api.Errno) {
	year, month, _ := dateOf(day)
	switch unit {
	case dayUnit:
		return oneDay(day + shift)
	case weekUnit:
		from := monday(day) + 7*shift
		return days(from, from+6)
	case monthUnit:
		at := year*12 + month - 1 + shift
		return wholeMonth(at/12, at%12+1)
	default: // yearUnit
		return wholeYear(year + shift)
	}
}

func wholeYear(year int) (int, int, api.Errno) {
	from, bad := DayOf(year, 1, 1)
	if bad != api.OK {
		return 0, 0, bad
	}
	return days(from, yearStart(year+1)-1)
}

func wholeMonth(year, month int) (int, int, api.Errno) {
	from, bad := DayOf(year, month, 1)
	if bad != api.OK {
		return 0, 0, bad
	}
	return days(from, from+monthLength(year, month)-1)
}

func wholeWeek(year, week int) (int, int, api.Errno) {
	inFirst, bad := DayOf(year, 1, 4) // it is always in the week with the year's first Thursday
	if bad != api.OK {
		return 0, 0, bad
	}
	from := monday(inFirst) + 7*(week-1)
	inYear, _, bad := Week(from)
	if bad != api.OK || inYear != year {
		return 0, 0, api.ErrRange
	}
	return days(from, from+6)
}
