package day

import (
	"slices"

	"florilegium/api"
	"florilegium/prop"
)

// A unit is a kind of periods: days, weeks, months or years.
type unit struct {
	word    string
	longest int // how many days a period has at most

	// start gives the first day of the period that comes so many periods after that of a day,
	// or beyond, if it begins after api.MaxDay.
	start func(day, periods int) int

	// days gives the days that a rule names in the period that begins on a day, rising,
	// also those that are before its From or after its end.
	days func(r Rule, start int) []int
}

// beyond is after all days.
const beyond = api.MaxDay + 1

// units has each unit at its number; 0 is none.
func units() [Years + 1]unit {
	return [Years + 1]unit{
		Days:   {"day", 1, dayStart, daysOfDay},
		Weeks:  {"week", 7, weekStart, daysOfWeek},
		Months: {"month", 31, monthStart, daysOfMonth},
		Years:  {"year", 366, yearStart, daysOfYear},
	}
}

func dayStart(day, periods int) int {
	return day + periods
}

func weekStart(day, periods int) int {
	return day - day%7 + 7*periods
}

func monthStart(day, periods int) int {
	_, _, date, _ := prop.DateOf(day)
	return dayOrBeyond(prop.Months(day-date+1, periods))
}

func yearStart(day, periods int) int {
	year, _, _, _ := prop.DateOf(day)
	return dayOrBeyond(prop.DayOf(year+periods, 1, 1))
}

func dayOrBeyond(day int, bad api.Errno) int {
	if bad != api.OK {
		return beyond
	}
	return day
}

func daysOfDay(_ Rule, start int) []int {
	return []int{start}
}

func daysOfWeek(r Rule, start int) []int {
	if len(r.Weekdays) == 0 {
		return []int{start + r.From%7}
	}
	var days []int
	for _, weekday := range r.Weekdays {
		days = append(days, start+weekday)
	}
	return days
}

func daysOfMonth(r Rule, start int) []int {
	year, month, _, _ := prop.DateOf(start)
	length := monthLength(year, month)
	dates := datesOfMonth(r, start, length)
	slices.Sort(dates)
	var days []int
	for _, date := range slices.Compact(dates) { // two of Dates can be one day, as 31 and -1
		if 1 <= date && date <= length {
			days = append(days, start+date-1)
		}
	}
	return days
}

// datesOfMonth gives the dates that a rule names in a month, in any order. Below 1, or above
// the month's length, are those that the month does not have.
func datesOfMonth(r Rule, start, length int) []int {
	var dates []int
	for _, date := range r.Dates {
		if date < 0 {
			date += length + 1
		}
		dates = append(dates, date)
	}
	for _, weekday := range r.Weekdays {
		dates = append(dates, nthDate(weekday, r.Nth, start, length))
	}
	if len(dates) == 0 {
		_, _, date, _ := prop.DateOf(r.From)
		dates = append(dates, date)
	}
	return dates
}

// nthDate gives the date of the nth one of a weekday in a month.
func nthDate(weekday, nth, start, length int) int {
	if nth > 0 {
		return 1 + (weekday+7-start%7)%7 + 7*(nth-1)
	}
	last := start + length - 1 // above 6, as each month is long enough
	return length - (last-weekday)%7 + 7*(nth+1)
}

func daysOfYear(r Rule, start int) []int {
	_, month, date, _ := prop.DateOf(r.From)
	year, _, _, _ := prop.DateOf(start)
	day, bad := prop.DayOf(year, month, date)
	if bad != api.OK {
		return nil
	}
	return []int{day}
}

// monthLengths has how many days months have in years that are no leap years.
var monthLengths = [12]int{31, 28, 31, 30, 31, 30, 31, 31, 30, 31, 30, 31}

// monthLength also knows the month that goes on after api.MaxDay.
func monthLength(year, month int) int {
	if _, bad := prop.DayOf(year, 2, 29); month == 2 && bad == api.OK {
		return 29
	}
	return monthLengths[month-1]
}
