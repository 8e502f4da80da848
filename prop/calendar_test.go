package prop_test

import (
	"math"
	"testing"
	"time"

	"florilegium/api"
	"florilegium/prop"
)

// The calendar of Go's library is the model here.

func timeOf(day int) time.Time {
	return time.Date(2001, 1, 1+day, 0, 0, 0, 0, time.UTC)
}

// modelDayOf gives the day of a date, and false, if there is none.
func modelDayOf(year, month, date int) (int, bool) {
	at := time.Date(year, time.Month(month), date, 0, 0, 0, 0, time.UTC)
	if at.Year() != year || int(at.Month()) != month || at.Day() != date {
		return 0, false
	}
	n := int(at.Unix()-timeOf(0).Unix()) / 86400
	return n, n >= 0 && n <= api.MaxDay
}

// P2.5

func TestEachDay(t *testing.T) {
	for n := range api.MaxDay + 1 {
		at := timeOf(n)
		year, month, date, bad := prop.DateOf(n)
		if year != at.Year() || month != int(at.Month()) || date != at.Day() || bad != api.OK {
			t.Fatal(n, year, month, date, bad)
		}
		if got, bad := prop.DayOf(year, month, date); got != n || bad != api.OK {
			t.Fatal(n, got, bad)
		}
		wantYear, wantWeek := at.ISOWeek()
		if year, week, bad := prop.Week(n); year != wantYear || week != wantWeek || bad != api.OK {
			t.Fatal(n, year, week, bad)
		}
		s, bad := prop.DateText(n)
		if s != at.Format("2006-01-02") || bad != api.OK {
			t.Fatal(n, s, bad)
		}
		if got, bad := prop.ReadDate(s); got != n || bad != api.OK {
			t.Fatal(n, s, got, bad)
		}
	}
}

func TestDayOf(t *testing.T) {
	for year := 1995; year < 2280; year++ {
		for month := -1; month < 15; month++ {
			for date := -1; date < 34; date++ {
				want, found := modelDayOf(year, month, date)
				got, bad := prop.DayOf(year, month, date)
				if found && (got != want || bad != api.OK) || !found && (got != 0 || bad != api.ErrRange) {
					t.Fatal(year, month, date, got, bad)
				}
			}
		}
	}
	great := []int{math.MinInt, math.MinInt32, -2024, 0, math.MaxInt32, math.MaxInt}
	for _, n := range great {
		for _, date := range [][3]int{{n, 3, 6}, {2024, n - 2, 6}, {2024, 3, n - 4}, {n, n, n}} {
			if got, bad := prop.DayOf(date[0], date[1], date[2]); got != 0 || bad != api.ErrRange {
				t.Error(date, got, bad)
			}
		}
	}
}

func TestDaysOutside(t *testing.T) {
	for _, n := range []int{math.MinInt, -7, -1, api.MaxDay + 1, math.MaxInt} {
		if year, month, date, bad := prop.DateOf(n); year != 0 || month != 0 || date != 0 || bad != api.ErrRange {
			t.Error(n, year, month, date, bad)
		}
		if year, week, bad := prop.Week(n); year != 0 || week != 0 || bad != api.ErrRange {
			t.Error(n, year, week, bad)
		}
		if s, bad := prop.DateText(n); s != "" || bad != api.ErrRange {
			t.Error(n, s, bad)
		}
		for _, months := range []int{0, 1, -1, math.MinInt, math.MaxInt} {
			if got, bad := prop.Months(n, months); got != 0 || bad != api.ErrRange {
				t.Error(n, months, got, bad)
			}
		}
	}
}

// modelMonths gives the day n months later, and false, if there is none.
func modelMonths(day, n int) (int, bool) {
	at := timeOf(day)
	month := time.Date(at.Year(), at.Month()+time.Month(n), 1, 0, 0, 0, 0, time.UTC)
	length := month.AddDate(0, 1, -1).Day()
	return modelDayOf(month.Year(), int(month.Month()), min(at.Day(), length))
}

func TestMonths(t *testing.T) {
	for n := 0; n <= api.MaxDay; n += 13 {
		for _, months := range []int{0, 1, -1, 2, 11, 12, -12, -13, 37, 1200, -1200, 3281, -3281, 9999 * 12} {
			want, found := modelMonths(n, months)
			got, bad := prop.Months(n, months)
			if found && (got != want || bad != api.OK) || !found && (got != 0 || bad != api.ErrRange) {
				t.Fatal(n, months, got, bad, want, found)
			}
		}
	}
	for _, c := range [][3]int{{30, 1, 58}, {30, 3, 119}, {8459, 12, 8824}, {8459, 48, 9920}, {58, -1, 27}, {89, -1, 58}, {0, 0, 0}, {api.MaxDay, 0, api.MaxDay}, {0, 3285, 99984}, {99984, -3285, 0}, {30, 3284, 99983}} {
		if got, bad := prop.Months(c[0], c[1]); got != c[2] || bad != api.OK {
			t.Error(c, got, bad)
		}
	}
	for _, c := range [][2]int{{0, -1}, {30, -1}, {31, -2}, {api.MaxDay, 1}, {0, 3286}, {30, 3285}, {0, math.MaxInt}, {api.MaxDay, math.MaxInt}, {0, math.MinInt}, {api.MaxDay, math.MinInt}, {50000, math.MaxInt - 1640}} {
		if got, bad := prop.Months(c[0], c[1]); got != 0 || bad != api.ErrRange {
			t.Error(c, got, bad)
		}
	}
}

// P2.6

func TestReadDate(t *testing.T) {
	for s, want := range map[string]api.Errno{
		"": api.ErrSyntax, "2024": api.ErrSyntax, "2024-03": api.ErrSyntax, "2024-3-06": api.ErrSyntax, "2024-03-6": api.ErrSyntax, "024-03-06": api.ErrSyntax,
		"02024-03-06": api.ErrSyntax, "2024-003-06": api.ErrSyntax, "2024-03-006": api.ErrSyntax, " 2024-03-06": api.ErrSyntax, "2024-03-06 ": api.ErrSyntax,
		"2024/03/06": api.ErrSyntax, "2024-03-06-": api.ErrSyntax, "-024-03-06": api.ErrSyntax, "2024-03-0x": api.ErrSyntax, "2024_03_06": api.ErrSyntax, "+024-03-06": api.ErrSyntax,
		"2024-+3-06": api.ErrSyntax, "2024-03--6": api.ErrSyntax, "2024-03-06\n": api.ErrSyntax, "٢٠٢٤-03-06": api.ErrSyntax,
		"2024-02-30": api.ErrRange, "2023-02-29": api.ErrRange, "2100-02-29": api.ErrRange, "2200-02-29": api.ErrRange, "2000-12-31": api.ErrRange, "2000-02-29": api.ErrRange,
		"0000-00-00": api.ErrRange, "0000-01-01": api.ErrRange, "9999-12-31": api.ErrRange, "2024-00-06": api.ErrRange, "2024-13-06": api.ErrRange, "2024-03-00": api.ErrRange,
		"2024-03-32": api.ErrRange, "2024-04-31": api.ErrRange, "2274-10-18": api.ErrRange, "2274-10-17": api.OK, "2004-02-29": api.OK, "2001-01-01": api.OK,
	} {
		if got, bad := prop.ReadDate(s); bad != want || bad != api.OK && got != 0 {
			t.Errorf("ReadDate(%q) = %d, %d, want %d", s, got, bad, want)
		}
	}
}
