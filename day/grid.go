package day

import (
	"florilegium/api"
	"florilegium/prop"
)

// Grid gives the weeks of a month, from Monday on. In the place of days of other months is noDay.
func Grid(year, month int) ([][]int, api.Errno) {
	first, bad := prop.DayOf(year, month, 1)
	if bad != api.OK {
		return nil, api.ErrRange
	}
	last := first + monthLength(year, month) - 1
	if !isDay(last) {
		return nil, api.ErrRange
	}
	var weeks [][]int
	for start := weekStart(first, 0); start <= last; start = weekStart(start, 1) {
		week := make([]int, 7)
		for weekday := range week {
			week[weekday] = start + weekday
			if week[weekday] < first || week[weekday] > last {
				week[weekday] = noDay
			}
		}
		weeks = append(weeks, week)
	}
	return weeks, api.OK
}

// Streak gives how many days in a row are in a list, going back from a day or from the one before it.
func Streak(days []int, day int) (int, api.Errno) {
	if len(days) > MaxDays {
		return 0, api.ErrLarge
	}
	listed := make(map[int]bool, len(days))
	for _, one := range days {
		if !isDay(one) {
			return 0, api.ErrRange
		}
		listed[one] = true
	}
	if !isDay(day) {
		return 0, api.ErrRange
	}
	if !listed[day] {
		day--
	}
	count := 0
	for listed[day-count] {
		count++
	}
	return count, api.OK
}
