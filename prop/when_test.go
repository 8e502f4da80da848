package prop_test

import (
	"math"
	"strconv"
	"strings"
	"testing"

	"florilegium/api"
	"florilegium/prop"
)

// P2.7

// wednesday is 2024-03-06.
const wednesday = 8465

type whenCase struct {
	s        string
	from, to int
}

func TestReadWhen(t *testing.T) {
	for _, c := range []whenCase{
		{"today", 8465, 8465}, {"tomorrow", 8466, 8466}, {"yesterday", 8464, 8464}, {"  TODAY ", 8465, 8465}, {"wednesday", 8465, 8465}, {"thursday", 8466, 8466},
		{"tuesday", 8471, 8471}, {"Next Wednesday", 8472, 8472}, {"next friday", 8467, 8467}, {"last wednesday", 8458, 8458}, {"last tuesday", 8464, 8464},
		{"last thursday", 8459, 8459}, {"in 1 day", 8466, 8466}, {"in 1 days", 8466, 8466}, {"in 2 day", 8467, 8467}, {"IN 2 WEEKS", 8479, 8479}, {"1 week ago", 8458, 8458},
		{"in 1 month", 8496, 8496}, {"6 months ago", 8283, 8283}, {"in 9999 days", 18464, 18464}, {"in 9999 weeks", 78458, 78458}, {"1 year ago", 8099, 8099},
		{"in 250 years", 8465 + 91310, 8465 + 91310}, {"this day", 8465, 8465}, {"next day", 8466, 8466}, {"last day", 8464, 8464}, {"this week", 8463, 8469},
		{"next week", 8470, 8476}, {"last week", 8456, 8462}, {"this month", 8460, 8490}, {"next month", 8491, 8520}, {"last month", 8431, 8459}, {"this year", 8400, 8765},
		{"next year", 8766, 9130}, {"last year", 8035, 8399}, {"2024", 8400, 8765}, {"2001", 0, 364}, {"2273", 99346, 99710}, {"2024-02", 8431, 8459}, {"2023-02", 8066, 8093},
		{"2001-01", 0, 30}, {"2274-09", 99954, 99983}, {"2024-W10", 8463, 8469}, {"2024-w10", 8463, 8469}, {"2001-W01", 0, 6}, {"2004-W53", 1456, 1462}, {"2024-W01", 8400, 8406},
		{"2025-W01", 8764, 8770}, {"2024-W52", 8757, 8763}, {"2024-03-06", 8465, 8465}, {"2024-03-06..2024-03-06", 8465, 8465}, {"2001-01-01..2274-10-17", 0, api.MaxDay},
	} {
		if from, to, bad := prop.ReadWhen(c.s, wednesday); from != c.from || to != c.to || bad != api.OK {
			t.Errorf("ReadWhen(%q) = %d, %d, %d, want %d, %d", c.s, from, to, bad, c.from, c.to)
		}
	}
}

func checkWhenError(t *testing.T, s string, today int, want api.Errno) {
	t.Helper()
	if from, to, bad := prop.ReadWhen(s, today); from != 0 || to != 0 || bad != want {
		t.Errorf("ReadWhen(%.40q, %d) = %d, %d, %d, want %d", s, today, from, to, bad, want)
	}
}

func TestReadWhenOfOtherForms(t *testing.T) {
	for _, s := range []string{
		"", " ", "now", "todays", "to day", "today.", "\ttoday", "today\n", "mon", "mondays", "next  monday", "next", "next ", "last", "this", "this monday", "in monday",
		"monday next", "in 0 days", "in 01 days", "in 10000 days", "in 12345678901234567890 days", "in -1 days", "in +1 days", "in 1.5 days", "in one day", "in 1", "in 1 ", "in days",
		"in  3 days", "in 3  days", "in 3days", "in3 days", "in 3 dayss", "in 3 days ago", "3 days", "3 days ago ago", "3 days  ago", "ago", "days ago", "0 days ago", "10000 days ago",
		"007 days ago", "3 daysago", "next days", "this weeks", "last months", "next years", "next 3 days", "this today", "day", "week", "202", "20244", "2024-", "2024-1", "2024-001",
		"2024-W1", "2024-W001", "2024W10", "2024-10W", "2024-W", "W10", "-2024", "+2024", "2024-3-6", "2024-03-06..", "..2024-03-06", "2024-03-06 .. 2024-03-07",
		"2024-03-06.. 2024-03-07", "2024-03-06.2024-03-07", "2024-03-06...2024-03-07", "2024-03..2024-04", "2024..2025", "today..tomorrow", "2024-03-06..2024-03-07..2024-03-08",
		"2024-W10-1", "\u017funday", "\u212aday", "wee\u212a", "this wee\u212a", "tue\u017fday", "next\u00a0monday", "in 3 days \x00", "2024-W10s", "in ٣ days",
	} {
		checkWhenError(t, s, wednesday, api.ErrSyntax)
	}
}

func TestReadWhenOutside(t *testing.T) {
	for _, s := range []string{
		"0000", "1999", "2000", "2274", "2275", "9999", "0000-00", "2000-12", "2024-00", "2024-13", "2024-99", "2274-10", "2274-11", "9999-12", "2024-W00", "2024-W53", "2023-W53",
		"2024-W54", "2024-W99", "2000-W52", "2001-W00", "2274-W43", "9999-W01", "0000-W00", "2024-02-30", "2000-12-31", "2274-10-18", "0000-00-00", "9999-99-99",
		"2024-02-30..2024-03-01", "2024-03-01..2024-02-30", "2000-12-31..2024-01-01", "2274-10-18..2274-10-17", "9999-01-01..0001-01-01", "in 251 years", "in 9999 years",
		"in 9999 months", "9999 months ago", "9999 years ago", "24 years ago", "9999 days ago", "9999 weeks ago", "279 months ago",
	} {
		checkWhenError(t, s, wednesday, api.ErrRange)
	}
	for _, s := range []string{"yesterday", "last monday", "last sunday", "1 day ago", "1 week ago", "1 month ago", "1 year ago", "last day", "last week", "last month", "last year"} {
		checkWhenError(t, s, 0, api.ErrRange)
	}
	for _, s := range []string{
		"tomorrow", "friday", "next monday", "next saturday", "sunday", "in 1 day", "in 1 week", "in 1 month", "in 1 year", "this week", "next day", "next week", "this month",
		"next month", "this year", "next year",
	} {
		checkWhenError(t, s, api.MaxDay, api.ErrRange)
	}
	for _, c := range []whenCase{{"today", 0, 0}, {"monday", 0, 0}, {"this week", 0, 6}, {"this month", 0, 30}, {"this year", 0, 364}, {"next monday", 7, 7}} {
		if from, to, bad := prop.ReadWhen(c.s, 0); from != c.from || to != c.to || bad != api.OK {
			t.Error(c.s, from, to, bad)
		}
	}
	for _, s := range []string{"2024-03-02..2024-03-01", " 2274-10-17..2001-01-01 "} {
		checkWhenError(t, s, wednesday, api.ErrOrder)
	}
}

func TestReadWhenInOrder(t *testing.T) {
	full := strings.Repeat("a", api.MaxBody)
	spaces := strings.Repeat(" ", api.MaxBody-len("today"))
	for _, today := range []int{math.MinInt, -1, api.MaxDay + 1, math.MaxInt} {
		checkWhenError(t, full+"a", today, api.ErrLarge)
		checkWhenError(t, full, today, api.ErrRange)
		checkWhenError(t, "", today, api.ErrRange)
		checkWhenError(t, "2024-03-07..2024-03-06", today, api.ErrRange)
		checkWhenError(t, "2024-03-06", today, api.ErrRange)
	}
	checkWhenError(t, full, 0, api.ErrSyntax)
	checkWhenError(t, spaces+" today", 0, api.ErrLarge)
	if from, to, bad := prop.ReadWhen(spaces+"today", 3); from != 3 || to != 3 || bad != api.OK {
		t.Error(from, to, bad)
	}
}

// modelPeriod goes from day to day to find the unit that is so many after that of today.
func modelPeriod(today, shift int, unit string) (from, to int) {
	key := func(n int) int {
		at := timeOf(n)
		switch unit {
		case "day":
			return n
		case "week":
			return (n + 7000) / 7
		case "month":
			return at.Year()*12 + int(at.Month())
		}
		return at.Year()
	}
	want := key(today) + shift
	from = today - 800
	for key(from) < want {
		from++
	}
	for to = from; key(to+1) == want; {
		to++
	}
	return from, to
}

func modelWeekday(from, step, weekday int) int {
	for int(timeOf(from).Weekday()) != (weekday+1)%7 {
		from += step
	}
	return from
}

// someDays are days at both ends, and some between.
func someDays() []int {
	var l []int
	for n := range 40 {
		l = append(l, n, api.MaxDay-n, 8400+n)
	}
	for n := 40; n < api.MaxDay; n += 487 {
		l = append(l, n)
	}
	return l
}

func checkWhen(t *testing.T, s string, today, from, to int) {
	t.Helper()
	if from < 0 || to > api.MaxDay {
		checkWhenError(t, s, today, api.ErrRange)
	} else if a, b, bad := prop.ReadWhen(s, today); a != from || b != to || bad != api.OK {
		t.Errorf("ReadWhen(%q, %d) = %d, %d, %d, want %d, %d", s, today, a, b, bad, from, to)
	}
}

func TestReadWhenByModel(t *testing.T) {
	weekdays := []string{"monday", "tuesday", "wednesday", "thursday", "friday", "saturday", "sunday"}
	for _, today := range someDays() {
		for i, word := range []string{"yesterday", "today", "tomorrow"} {
			checkWhen(t, word, today, today+i-1, today+i-1)
		}
		for i, name := range weekdays {
			on, next, last := modelWeekday(today, 1, i), modelWeekday(today+1, 1, i), modelWeekday(today-1, -1, i)
			checkWhen(t, name, today, on, on)
			checkWhen(t, "next "+name, today, next, next)
			checkWhen(t, "last "+name, today, last, last)
		}
		for _, unit := range []string{"day", "week", "month", "year"} {
			for i, word := range []string{"last ", "this ", "next "} {
				from, to := modelPeriod(today, i-1, unit)
				checkWhen(t, word+unit, today, from, to)
			}
		}
	}
}

func TestReadWhenOfStepsByModel(t *testing.T) {
	for _, today := range someDays() {
		for _, n := range []int{1, 2, 5, 12, 31, 250, 9999} {
			for sign, form := range map[int]string{1: "in N UNIT", -1: "N UNIT ago"} {
				for _, s := range []string{"", "s"} {
					form := strings.Replace(form, "N", strconv.Itoa(n), 1)
					checkStep(t, form, "day"+s, today, today+sign*n)
					checkStep(t, form, "week"+s, today, today+7*sign*n)
					for unit, months := range map[string]int{"month": n, "year": 12 * n} {
						want, found := modelMonths(today, sign*months)
						if !found {
							want = -1
						}
						checkStep(t, form, unit+s, today, want)
					}
				}
			}
		}
	}
}

func checkStep(t *testing.T, form, unit string, today, want int) {
	t.Helper()
	checkWhen(t, strings.Replace(form, "UNIT", unit, 1), today, want, want)
}

func TestReadWhenOfNumbersByModel(t *testing.T) {
	for year := 1998; year < 2278; year++ {
		s := strconv.Itoa(year)
		from, to := modelPeriod(timeDay(year, 1), 0, "year")
		checkWhen(t, s, 0, from, to)
		for month := 1; month <= 12; month++ {
			from, to := modelPeriod(timeDay(year, month), 0, "month")
			checkWhen(t, s+"-"+strconv.Itoa(100 + month)[1:], 0, from, to)
		}
		for week := range 100 {
			s := s + "-W" + strconv.Itoa(100 + week)[1:]
			from := timeDay(year, 1) - 10
			for from++; modelWeek(from) != [2]int{year, week} && from < timeDay(year+1, 1)+10; from++ {
			}
			if modelWeek(from) != [2]int{year, week} {
				checkWhenError(t, s, 0, api.ErrRange)
			} else {
				checkWhen(t, s, 0, from, from+6)
			}
		}
	}
}

// timeDay gives the first day of a month, also of one that has no days here.
func timeDay(year, month int) int {
	at := timeOf(0).AddDate(year-2001, month-1, 0)
	return int(at.Unix()-timeOf(0).Unix()) / 86400
}

func modelWeek(day int) [2]int {
	year, week := timeOf(day).ISOWeek()
	return [2]int{year, week}
}
