package prop

import (
	"strconv"
	"strings"

	"florilegium/api"
)

const (
	firstYear = 2001                         // day 0 is its first one
	lastYear  = firstYear + api.MaxDay/365   // no day is in a later one
	lastMonth = (lastYear-firstYear)*12 + 11 // counted from the month of day 0 on, which is 0
)

// monthLengths has how many days months have in years that are no leap years.
var monthLengths = [12]int{31, 28, 31, 30, 31, 30, 31, 31, 30, 31, 30, 31}

func monthLength(year, month int) int {
	if month == 2 && isLeap(year) {
		return 29
	}
	return monthLengths[month-1]
}

func isLeap(year int) bool {
	return year%4 == 0 && (year%100 != 0 || year%400 == 0)
}

// yearStart gives the first day of a year from firstYear on.
func yearStart(year int) int {
	return 365*(year-firstYear) + leapYears(year-1) - leapYears(firstYear-1)
}

// leapYears gives how many leap years there are from the year 1 to a year.
func leapYears(year int) int {
	return year/4 - year/100 + year/400
}

func yearOf(day int) int {
	year := firstYear + day/366 // leap years can make it too low only
	for yearStart(year+1) <= day {
		year++
	}
	return year
}

// dateOf is DateOf of a right day.
func dateOf(day int) (year, month, date int) {
	year, month = yearOf(day), 1
	day -= yearStart(year)
	for day >= monthLength(year, month) {
		day -= monthLength(year, month)
		month++
	}
	return year, month, day + 1
}

func isDay(day int) bool {
	return 0 <= day && day <= api.MaxDay
}

// DayOf gives the day of a date.
func DayOf(year, month, day int) (int, api.Errno) {
	if year < firstYear || year > lastYear || month < 1 || month > 12 {
		return 0, api.ErrRange
	}
	if day < 1 || day > monthLength(year, month) {
		return 0, api.ErrRange
	}
	at := yearStart(year) + day - 1
	for before := 1; before < month; before++ {
		at += monthLength(year, before)
	}
	if at > api.MaxDay {
		return 0, api.ErrRange
	}
	return at, api.OK
}

// DateOf gives the date of a day.
func DateOf(day int) (year, month, date int, e api.Errno) {
	if !isDay(day) {
		return 0, 0, 0, api.ErrRange
	}
	year, month, date = dateOf(day)
	return year, month, date, api.OK
}

// Week gives the week of a day, and the year in which that is.
func Week(day int) (year, week int, e api.Errno) {
	if !isDay(day) {
		return 0, 0, api.ErrRange
	}
	thursday := monday(day) + 3
	year = yearOf(thursday)
	return year, (thursday-yearStart(year))/7 + 1, api.OK
}

// monday gives the first day of the week of a day.
func monday(day int) int {
	return day - day%7
}

// Months gives the day with the same date n months later.
func Months(day, n int) (int, api.Errno) {
	if !isDay(day) {
		return 0, api.ErrRange
	}
	year, month, date := dateOf(day)
	at := (year-firstYear)*12 + month - 1
	if n < -at || n > lastMonth-at {
		return 0, api.ErrRange
	}
	year, month = firstYear+(at+n)/12, (at+n)%12+1
	return DayOf(year, month, min(date, monthLength(year, month)))
}

// DateText writes the date of a day.
func DateText(day int) (string, api.Errno) {
	if !isDay(day) {
		return "", api.ErrRange
	}
	return dateText(day), api.OK
}

// dateText is DateText of a right day.
func dateText(day int) string {
	year, month, date := dateOf(day)
	return padded(year, 4) + "-" + padded(month, 2) + "-" + padded(date, 2)
}

// padded writes a number that has at most width digits.
func padded(n, width int) string {
	s := strconv.Itoa(n)
	return strings.Repeat("0", width-len(s)) + s
}
