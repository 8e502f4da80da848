package day_test

import (
	"fmt"
	"math"
	"strings"
	"testing"

	"florilegium/api"
	"florilegium/day"
)

// firstDays gives the first days on which a rule occurs, at most so many.
func firstDays(r day.Rule, most int) []int {
	var days []int
	if must(day.Occurs(r, 0)) {
		days = append(days, 0)
	}
	for at := 0; len(days) < most; {
		next, bad := day.Next(r, at)
		if bad == api.ErrNone {
			break
		}
		at = must(next, bad)
		days = append(days, at)
	}
	return days
}

// wantDays tells where a rule occurs on other days than wanted. After `..` there may be more.
func wantDays(t *testing.T, r day.Rule, wanted string) {
	t.Helper()
	begin, more := strings.CutSuffix(wanted, " ..")
	days := daysOf(begin)
	got := firstDays(r, len(days)+1)
	if more && len(got) > len(days) {
		got = got[:len(days)]
	}
	want(t, fmt.Sprint(r), got, days, 0, 0)
}

// from gives a rule that does not begin on 2024-03-06.
func from(begin, every string, rest ...string) day.Rule {
	return must(day.ReadRule("every " + every + " from " + begin + strings.Join(append([]string{""}, rest...), " ")))
}

// P6.2

func TestDays(t *testing.T) {
	wantDays(t, rule("1 day"), "2024-03-06 2024-03-07 2024-03-08 ..")
	wantDays(t, rule("30 days"), "2024-03-06 2024-04-05 2024-05-05 ..")
	wantDays(t, rule("1000 days"), "2024-03-06 2026-12-01 2029-08-27 ..")
	wantDays(t, rule("2 days", "until 2024-03-10"), "2024-03-06 2024-03-08 2024-03-10")
	wantDays(t, rule("2 days", "until 2024-03-09"), "2024-03-06 2024-03-08")
	wantDays(t, rule("1 day", "until 2024-03-06"), "2024-03-06")
	wantDays(t, rule("1 day", "until 2024-03-05"), "")
	wantDays(t, rule("1 day", "until 2001-01-01"), "")
	wantDays(t, from("2001-01-01", "1 day", "until 2001-01-01"), "2001-01-01")
	wantDays(t, from("2274-10-14", "1 day"), "2274-10-14 2274-10-15 2274-10-16 2274-10-17")
	wantDays(t, from("2274-10-16", "2 days"), "2274-10-16")
}

func TestWeeks(t *testing.T) {
	wantDays(t, rule("1 week"), "2024-03-06 2024-03-13 2024-03-20 ..")
	wantDays(t, rule("2 weeks", "on wed fri"), "2024-03-06 2024-03-08 2024-03-20 2024-03-22 2024-04-03 ..")
	// The week of From begins before it: a Monday and a Tuesday are left out.
	wantDays(t, rule("2 weeks", "on mon tue sun"), "2024-03-10 2024-03-18 2024-03-19 2024-03-24 2024-04-01 ..")
	wantDays(t, rule("3 weeks", "on mon"), "2024-03-25 2024-04-15 ..")
	wantDays(t, rule("1 week", "until 2024-03-11", "on mon sun"), "2024-03-10 2024-03-11")
	wantDays(t, from("2024-03-10", "2 weeks", "on mon sun"), "2024-03-10 2024-03-18 2024-03-24 ..")
	wantDays(t, from("2024-03-11", "2 weeks", "on mon sun"), "2024-03-11 2024-03-17 2024-03-25 ..")
	wantDays(t, from("2001-01-01", "1000 weeks", "on mon sun"), "2001-01-01 2001-01-07 2020-03-02 2020-03-08 ..")
	wantDays(t, from("2274-10-04", "1 week", "on fri sun"), "2274-10-04 2274-10-09 2274-10-11 2274-10-16")
}

func TestMonthsWithDates(t *testing.T) {
	wantDays(t, rule("1 month"), "2024-03-06 2024-04-06 2024-05-06 ..")
	wantDays(t, rule("13 months"), "2024-03-06 2025-04-06 2026-05-06 ..")
	wantDays(t, rule("3 months", "dates -1 15"), "2024-03-15 2024-03-31 2024-06-15 2024-06-30 2024-09-15 ..")
	wantDays(t, rule("1 month", "dates 5 6"), "2024-03-06 2024-04-05 2024-04-06 ..")
	wantDays(t, rule("1 month", "dates 31"), "2024-03-31 2024-05-31 2024-07-31 2024-08-31 2024-10-31 ..")
	wantDays(t, rule("1 month", "dates -31 -30 30"), "2024-03-30 2024-04-01 2024-04-30 2024-05-01 2024-05-02 2024-05-30 ..")
	wantDays(t, rule("12 months", "dates -31"), "2025-03-01 2026-03-01 ..")
	wantDays(t, from("2024-01-01", "1 month", "until 2024-03-01"), "2024-01-01 2024-02-01 2024-03-01")
	wantDays(t, from("2024-01-31", "1 month"), "2024-01-31 2024-03-31 2024-05-31 ..")
	wantDays(t, from("2024-03-30", "11 months"), "2024-03-30 2026-01-30 2026-12-30 2027-11-30 ..")
	wantDays(t, from("2023-01-01", "1 month", "dates -29 29"), "2023-01-03 2023-01-29 2023-03-03 2023-03-29 2023-04-02 2023-04-29 ..")
	wantDays(t, from("2023-02-01", "12 months", "dates -29 29"), "2024-02-01 2024-02-29 2028-02-01 2028-02-29 ..")
	wantDays(t, from("2095-02-01", "12 months", "dates 29"), "2096-02-29 2104-02-29 ..") // 2100 is no leap year
	wantDays(t, from("2001-01-01", "1000 months", "dates 1"), "2001-01-01 2084-05-01 2167-09-01 2251-01-01")
	// Two of Dates that are one day are one candidate.
	wantDays(t, rule("1 month", "times 8", "dates -1 29 30 31"), "2024-03-29 2024-03-30 2024-03-31 2024-04-29 2024-04-30 2024-05-29 2024-05-30 2024-05-31")
	// The last month goes on after the last day: its Dates below 0 are counted from its end all the same.
	wantDays(t, from("2274-09-29", "1 month", "dates -31 -17 -16 -15 -1 17"), "2274-09-30 2274-10-01 2274-10-15 2274-10-16 2274-10-17")
}

func TestMonthsWithWeekdays(t *testing.T) {
	wantDays(t, rule("1 month", "on 1th wed"), "2024-03-06 2024-04-03 2024-05-01 ..")
	wantDays(t, rule("1 month", "on 1th tue"), "2024-04-02 2024-05-07 ..")
	wantDays(t, rule("2 months", "on 2th mon fri"), "2024-03-08 2024-03-11 2024-05-10 2024-05-13 2024-07-08 2024-07-12 ..")
	wantDays(t, rule("1 month", "on -1th mon"), "2024-03-25 2024-04-29 2024-05-27 ..")
	wantDays(t, rule("1 month", "on -1th sat sun"), "2024-03-30 2024-03-31 2024-04-27 2024-04-28 2024-05-25 2024-05-26 ..")
	wantDays(t, rule("1 month", "on 5th wed"), "2024-05-29 2024-07-31 2024-10-30 2025-01-29 ..")
	wantDays(t, rule("1 month", "on -5th wed"), "2024-05-01 2024-07-03 2024-10-02 2025-01-01 ..")
	wantDays(t, rule("12 months", "on 5th sun"), "2024-03-31 2025-03-30 2026-03-29 2030-03-31 ..")
	wantDays(t, from("2274-09-30", "1 month", "on -3th mon tue fri"), "2274-10-12 2274-10-13 2274-10-16")
	wantDays(t, from("2274-09-30", "1 month", "on -1th mon"), "")
}

func TestYears(t *testing.T) {
	wantDays(t, rule("1 year"), "2024-03-06 2025-03-06 2026-03-06 ..")
	wantDays(t, rule("7 years"), "2024-03-06 2031-03-06 2038-03-06 ..")
	wantDays(t, from("2024-02-29", "1 year"), "2024-02-29 2028-02-29 2032-02-29 ..")
	wantDays(t, from("2024-02-29", "6 years"), "2024-02-29 2036-02-29 2048-02-29 ..")
	wantDays(t, from("2096-02-29", "1 year"), "2096-02-29 2104-02-29 ..")
	wantDays(t, from("2001-12-31", "100 years"), "2001-12-31 2101-12-31 2201-12-31")
	wantDays(t, from("2001-10-17", "273 years"), "2001-10-17 2274-10-17")
	wantDays(t, from("2001-10-18", "273 years"), "2001-10-18")
	wantDays(t, from("2274-10-17", "1 year"), "2274-10-17")
	wantDays(t, rule("1000 years"), "2024-03-06")
	wantDays(t, from("2024-01-01", "1 year", "until 2026-01-01"), "2024-01-01 2025-01-01 2026-01-01")
	wantDays(t, from("2024-01-20", "1 year", "until 2026-01-20"), "2024-01-20 2025-01-20 2026-01-20")
	wantDays(t, rule("1 year", "until 2025-03-05"), "2024-03-06")
}

// The first ones count, also those that are then skipped; those before From do not.
func TestCountAndSkip(t *testing.T) {
	wantDays(t, rule("1 day", "times 1"), "2024-03-06")
	wantDays(t, rule("1 day", "times 3", "skip 2024-03-07"), "2024-03-06 2024-03-08")
	wantDays(t, rule("1 day", "times 3", "skip 2024-03-06 2024-03-07 2024-03-08"), "")
	wantDays(t, rule("1 day", "times 3", "skip 2024-03-05 2024-03-08 2024-03-09"), "2024-03-06 2024-03-07")
	wantDays(t, rule("1 day", "until 2024-03-08", "times 4"), "2024-03-06 2024-03-07 2024-03-08")
	wantDays(t, rule("1 day", "until 2024-03-09", "times 3"), "2024-03-06 2024-03-07 2024-03-08")
	wantDays(t, rule("2 days", "skip 2024-03-06 2024-03-07 2024-03-10"), "2024-03-08 2024-03-12 2024-03-14 ..")
	wantDays(t, rule("1 week", "times 3", "on mon sun"), "2024-03-10 2024-03-11 2024-03-17")
	wantDays(t, rule("1 month", "times 2", "dates 1 31"), "2024-03-31 2024-04-01")
	wantDays(t, rule("1 month", "times 2", "on 5th wed"), "2024-05-29 2024-07-31")
	wantDays(t, from("2024-02-29", "1 year", "times 3"), "2024-02-29 2028-02-29 2032-02-29")
	want(t, "5000 times", len(firstDays(rule("1 day", "times 5000"), 5001)), 5000, 0, 0)
}

// P6.3

func TestOccurs(t *testing.T) {
	for _, c := range []struct {
		rule   day.Rule
		day    string
		occurs bool
	}{
		{rule("2 weeks", "on wed fri"), "2024-03-06", true},
		{rule("2 weeks", "on wed fri"), "2024-03-07", false},
		{rule("2 weeks", "on wed fri"), "2024-03-08", true},
		{rule("2 weeks", "on wed fri"), "2024-03-15", false},
		{rule("2 weeks", "on wed fri"), "2024-02-21", false},
		{rule("2 weeks", "on wed fri", "skip 2024-03-08"), "2024-03-08", false},
		{rule("1 day"), "2274-10-17", true},
		{rule("1 day"), "2001-01-01", false},
		{from("2001-01-01", "1 day"), "2001-01-01", true},
		{rule("1 day", "times 5000"), "2037-11-12", true},
		{rule("1 day", "times 5000"), "2037-11-13", false},
	} {
		got, bad := day.Occurs(c.rule, dayOf(c.day))
		want(t, fmt.Sprint(c), got, c.occurs, bad, api.OK)
	}
}

func TestNextAndBefore(t *testing.T) {
	// An empty string is ErrNone.
	for _, c := range []struct {
		rule              day.Rule
		day, next, before string
	}{
		{rule("2 weeks", "on wed fri"), "2024-03-05", "2024-03-06", ""},
		{rule("2 weeks", "on wed fri"), "2024-03-06", "2024-03-08", ""},
		{rule("2 weeks", "on wed fri"), "2024-03-07", "2024-03-08", "2024-03-06"},
		{rule("2 weeks", "on wed fri"), "2024-03-08", "2024-03-20", "2024-03-06"},
		{rule("2 weeks", "on wed fri"), "2024-03-19", "2024-03-20", "2024-03-08"},
		{rule("2 weeks", "on wed fri"), "2001-01-01", "2024-03-06", ""},
		{rule("1 day", "until 2024-03-08"), "2024-03-07", "2024-03-08", "2024-03-06"},
		{rule("1 day", "until 2024-03-08"), "2024-03-08", "", "2024-03-07"},
		{rule("1 day", "until 2024-03-08"), "2274-10-17", "", "2024-03-08"},
		{rule("1 day", "times 3", "skip 2024-03-07"), "2024-03-06", "2024-03-08", ""},
		{rule("1 day", "times 3", "skip 2024-03-07"), "2024-03-08", "", "2024-03-06"},
		{rule("1 day", "times 3", "skip 2024-03-08"), "2024-03-07", "", "2024-03-06"},
		{rule("1 day"), "2274-10-16", "2274-10-17", "2274-10-15"},
		{rule("1 day"), "2274-10-17", "", "2274-10-16"},
		{from("2001-01-01", "1 day"), "2001-01-01", "2001-01-02", ""},
		{from("2001-01-01", "1 day"), "2001-01-02", "2001-01-03", "2001-01-01"},
		{from("2004-02-29", "4 years"), "2099-01-01", "2104-02-29", "2096-02-29"},
		{from("2024-02-29", "1000 years"), "2024-02-29", "", ""},
	} {
		for name, call := range map[string]struct {
			of     func(r day.Rule, at int) (int, api.Errno)
			wanted string
		}{"Next": {day.Next, c.next}, "Before": {day.Before, c.before}} {
			wanted, wantedBad := 0, api.ErrNone
			if call.wanted != "" {
				wanted, wantedBad = dayOf(call.wanted), api.OK
			}
			got, bad := call.of(c.rule, dayOf(c.day))
			want(t, name+fmt.Sprint(c), got, wanted, bad, wantedBad)
		}
	}
}

func TestBetween(t *testing.T) {
	r := rule("2 weeks", "on wed fri") // 8465 8467 8479 8481
	for _, c := range []struct {
		from, to int
		days     []int
		bad      api.Errno
	}{
		{8460, 8481, []int{8465, 8467, 8479, 8481}, api.OK},
		{8465, 8479, []int{8465, 8467, 8479}, api.OK},
		{8466, 8478, []int{8467}, api.OK},
		{8467, 8467, []int{8467}, api.OK},
		{8468, 8478, nil, api.OK},
		{0, 0, nil, api.OK},
		{0, 4000, nil, api.OK},
		{4466, 8466, []int{8465}, api.OK},
		{api.MaxDay - 9, api.MaxDay, []int{99997, 99999}, api.OK},
		{4465, 8466, nil, api.ErrRange},
		{-1, 8466, nil, api.ErrRange},
		{8466, api.MaxDay + 1, nil, api.ErrRange},
		{api.MaxDay + 1, 8466, nil, api.ErrRange},
		{8466, -1, nil, api.ErrRange},
		{math.MinInt, math.MaxInt, nil, api.ErrRange},
		{math.MaxInt, math.MinInt, nil, api.ErrRange},
		{8467, 8466, nil, api.ErrOrder},
		{api.MaxDay, 0, nil, api.ErrOrder},
	} {
		got, bad := day.Between(r, c.from, c.to)
		want(t, fmt.Sprint(c), got, c.days, bad, c.bad)
	}
	all, bad := day.Between(from("2001-01-01", "1 day"), 50, 4050)
	want(t, "all days", all, rising(50, 4001), bad, api.OK)
}

func TestNumber(t *testing.T) {
	for _, c := range []struct {
		rule   day.Rule
		day    string
		number int
	}{
		{rule("2 weeks", "on wed fri"), "2024-03-05", 0},
		{rule("2 weeks", "on wed fri"), "2024-03-06", 1},
		{rule("2 weeks", "on wed fri"), "2024-03-07", 1},
		{rule("2 weeks", "on wed fri"), "2024-03-20", 3},
		{rule("2 weeks", "on wed fri"), "2001-01-01", 0},
		{from("2001-01-01", "1 day"), "2001-01-01", 1},
		{from("2001-01-01", "1 day"), "2274-10-17", api.MaxDay + 1},
		{rule("1 day", "times 3", "skip 2024-03-07"), "2024-03-07", 1},
		{rule("1 day", "times 3", "skip 2024-03-07"), "2274-10-17", 2},
		{rule("1 day", "times 5000"), "2274-10-17", 5000},
		{rule("1 day", "until 2024-03-10"), "2274-10-17", 5},
	} {
		got, bad := day.Number(c.rule, dayOf(c.day))
		want(t, fmt.Sprint(c), got, c.number, bad, api.OK)
	}
}
