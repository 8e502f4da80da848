package day_test

import (
	"fmt"
	"strings"
	"testing"

	"florilegium/api"
	"florilegium/day"
)

// P6.4

func TestRuleTextAndReadRule(t *testing.T) {
	dates := append(rising(-31, 31), rising(1, 31)...)
	for s, r := range map[string]day.Rule{
		"every 1 day from 2001-01-01":                                                                   {Unit: day.Days, Every: 1, Until: -1},
		"every 2 days from 2274-10-17":                                                                  {Unit: day.Days, Every: 2, From: api.MaxDay, Until: -1},
		"every 1 week from 2024-03-06":                                                                  {Unit: day.Weeks, Every: 1, From: march, Until: -1},
		"every 10 weeks from 2024-03-06":                                                                {Unit: day.Weeks, Every: 10, From: march, Until: -1},
		"every 1 month from 2024-03-06":                                                                 {Unit: day.Months, Every: 1, From: march, Until: -1},
		"every 3 months from 2024-03-06":                                                                {Unit: day.Months, Every: 3, From: march, Until: -1},
		"every 1 year from 2024-03-06":                                                                  {Unit: day.Years, Every: 1, From: march, Until: -1},
		"every 1000 years from 2024-03-06":                                                              {Unit: day.Years, Every: 1000, From: march, Until: -1},
		"every 1 day from 2024-03-06 until 2001-01-01":                                                  {Unit: day.Days, Every: 1, From: march},
		"every 1 day from 2024-03-06 until 2024-03-07 times 5000":                                       {Unit: day.Days, Every: 1, From: march, Until: march + 1, Count: 5000},
		"every 1 day from 2024-03-06 times 1 skip 2001-01-01":                                           {Unit: day.Days, Every: 1, From: march, Until: -1, Count: 1, Skip: []int{0}},
		"every 2 weeks from 2024-03-06 on mon":                                                          {Unit: day.Weeks, Every: 2, From: march, Until: -1, Weekdays: []int{0}},
		"every 2 weeks from 2024-03-06 on mon tue wed thu fri sat sun":                                  {Unit: day.Weeks, Every: 2, From: march, Until: -1, Weekdays: rising(0, 7)},
		"every 1 month from 2024-03-06 on 1th mon sun":                                                  {Unit: day.Months, Every: 1, From: march, Until: -1, Weekdays: []int{0, 6}, Nth: 1},
		"every 1 month from 2024-03-06 on -5th sun skip 2024-03-07 2024-03-08":                          {Unit: day.Months, Every: 1, From: march, Until: -1, Weekdays: []int{6}, Nth: -5, Skip: []int{8466, 8467}},
		"every 1 month from 2024-03-06 dates -31 31":                                                    {Unit: day.Months, Every: 1, From: march, Until: -1, Dates: []int{-31, 31}},
		"every 2 months from 2024-03-06 until 2024-03-06 times 7 dates 1 skip 2024-03-06":               {Unit: day.Months, Every: 2, From: march, Until: march, Count: 7, Dates: []int{1}, Skip: []int{march}},
		"every 2 months from 2024-03-06 until 2024-03-06 times 7 on 2th fri skip 2024-03-06 2274-10-17": {Unit: day.Months, Every: 2, From: march, Until: march, Count: 7, Weekdays: []int{4}, Nth: 2, Skip: []int{march, api.MaxDay}},
	} {
		text, bad := day.RuleText(r)
		want(t, s, text, s, bad, api.OK)
		read, bad := day.ReadRule(s)
		want(t, s, read, r, bad, api.OK)
	}
	longest := day.Rule{Unit: day.Months, Every: day.MaxEvery, From: march, Until: march, Count: day.MaxDays, Dates: dates, Skip: rising(0, day.MaxSkip)}
	text, bad := day.RuleText(longest)
	want(t, "longest", len(text), 1371, bad, api.OK)
	read, bad := day.ReadRule(text)
	want(t, "longest", read, longest, bad, api.OK)
}

// replaced gives the string in which a part is another one.
func replaced(part, by string) string {
	const whole = "every 2 months from 2024-03-06 until 2024-03-07 times 3 on 2th mon tue dates 4 5 skip 2024-03-08 2024-03-09"
	if strings.Count(whole, part) != 1 {
		panic(part)
	}
	return strings.Replace(whole, part, by, 1)
}

func TestReadRuleOfWrongForms(t *testing.T) {
	if got := second(day.ReadRule(replaced("every", "every"))); got != api.ErrForm { // weekdays and dates
		t.Fatal(got)
	}
	for _, s := range []string{
		"", " ", "every", "every 1", "every 1 day", "every 1 day from", "day from 2024-03-06", "1 day from 2024-03-06", "from 2024-03-06",
		"every day from 2024-03-06", "every 1 from 2024-03-06", "every 1 day 2024-03-06", "every 1 day from 2024-03-06\n", "\nevery 1 day from 2024-03-06",
		" every 1 day from 2024-03-06", "every 1 day from 2024-03-06 ", "every 1  day from 2024-03-06", "every  from 2024-03-06", "every 1 s from 2024-03-06", "every 0 s from 2024-03-06", "every 1  from 2024-03-06",
		"Every 1 day from 2024-03-06", "every 1 Day from 2024-03-06", "every one day from 2024-03-06", "every 1 dayss from 2024-03-06", "every 1 days from 2024-03-06",
		"every 2 day from 2024-03-06", "every 0 day from 2024-03-06", "every -1 day from 2024-03-06", "every -0 days from 2024-03-06", "every 01 day from 2024-03-06",
		"every +2 days from 2024-03-06", "every 1 fortnight from 2024-03-06", "every 1 day 1 from 2024-03-06", "every day 1 from 2024-03-06", "every 2 days days from 2024-03-06",
		"every 1000000000 days from 2024-03-06", "every -1000000000 days from 2024-03-06", "every 0000000002 days from 2024-03-06", "every 99999999999999999999 days from 2024-03-06",
		"every 1 day from 2023-02-29", "every 1 day from 2274-10-18", "every 1 day from 2000-12-31", "every 1 day from 24-03-06", "every 1 day from 2024-3-6", "every 1 day from 8465",
		"every 1 day from 2024-03-06 2024-03-06", "every 1 day from 2024-03-06 from 2024-03-06", "every 1 day from 2024-03-06 every 1 day", "from 2024-03-06 every 1 day",
		replaced("until 2024-03-07", "until"), replaced("until 2024-03-07", "until 2024-03-32"), replaced("until 2024-03-07", "until 3"), replaced("until 2024-03-07", "until 2024-03-07 2024-03-07"),
		replaced("until 2024-03-07", "until -1"), replaced("until 2024-03-07", "2024-03-07"), replaced("until 2024-03-07", "UNTIL 2024-03-07"),
		replaced("times 3", "times"), replaced("times 3", "times 0"), replaced("times 3", "times -0"), replaced("times 3", "times 03"), replaced("times 3", "times 3 4"), replaced("times 3", "times x"),
		replaced("times 3", "times 1234567890"), replaced("times 3", "times -1234567890"), replaced("times 3", "3"), replaced("times 3", "times 3 times 3"), replaced("times 3", "times -"),
		replaced("on 2th mon tue", "on"), replaced("on 2th mon tue", "on 2th"), replaced("on 2th mon tue", "on 0th mon"), replaced("on 2th mon tue", "on mon 2th"), replaced("on 2th mon tue", "on 2th 2th mon"),
		replaced("on 2th mon tue", "on 2 mon"), replaced("on 2th mon tue", "on th mon"), replaced("on 2th mon tue", "on 02th mon"), replaced("on 2th mon tue", "on 2nd mon"), replaced("on 2th mon tue", "on 2thth mon"),
		replaced("on 2th mon tue", "on 2th monday"), replaced("on 2th mon tue", "on 2th mo"), replaced("on 2th mon tue", "on 2th Mon"), replaced("on 2th mon tue", "on 2th mon, tue"), replaced("on 2th mon tue", "on 1234567890th mon"),
		replaced("on 2th mon tue", "on 2th mon on tue"), replaced("on 2th mon tue", "2th mon tue"), replaced("on 2th mon tue", "on 2th 0"), replaced("on 2th mon tue", "on -0th mon"), replaced("on 2th mon tue", "on 2th mon  tue"),
		replaced("dates 4 5", "dates"), replaced("dates 4 5", "dates 4,5"), replaced("dates 4 5", "dates 04"), replaced("dates 4 5", "dates x"), replaced("dates 4 5", "dates 4 -0"), replaced("dates 4 5", "4 5"),
		replaced("dates 4 5", "dates 4 mon"), replaced("dates 4 5", "dates 4 dates 5"), replaced("dates 4 5", "dates 1234567890"), replaced("dates 4 5", "dates 4 2024-03-06"), replaced("dates 4 5", "date 4"),
		replaced("skip 2024-03-08 2024-03-09", "skip"), replaced("skip 2024-03-08 2024-03-09", "skip 2024-03-00"), replaced("skip 2024-03-08 2024-03-09", "skip 2274-10-18"), replaced("skip 2024-03-08 2024-03-09", "skip 4"),
		replaced("skip 2024-03-08 2024-03-09", "skip 2024-03-08 2024-02-30"), replaced("skip 2024-03-08 2024-03-09", "skip 2024-03-08, 2024-03-09"), replaced("skip 2024-03-08 2024-03-09", "2024-03-08"),
		replaced("skip 2024-03-08 2024-03-09", "skip 2024-03-08 skip 2024-03-09"), replaced("skip 2024-03-08 2024-03-09", "skip 2024-03-08 2024-03-09 more"),
		"every 1 day from 2024-03-06 times 3 until 2024-03-07", "every 1 month from 2024-03-06 dates 4 on 1th mon", "every 1 day from 2024-03-06 skip 2024-03-07 times 3",
		"every 1 day until 2024-03-07 from 2024-03-06", "every 1 week from 2024-03-06 on mon times 3", "every 1 month from 2024-03-06 skip 2024-03-07 dates 4",
		"every 1 week from 2024-03-06 on", "every 1 day from 2024-03-06 times", "every 1 month from 2024-03-06 dates", "every 1 day from 2024-03-06 skip", "every 1 day from 2024-03-06 until",
	} {
		wantError(t, s, second(day.ReadRule(s)), api.ErrSyntax)
	}
}

// What is of the form has CheckRule's errors.
func TestReadRuleOfWrongRules(t *testing.T) {
	months := func(s string) string { return "every 1 month from 2024-03-06 " + s }
	for s, bad := range map[string]api.Errno{
		"every 0 days from 2024-03-06": api.ErrRange, "every -1 days from 2024-03-06": api.ErrRange, "every 1001 weeks from 2024-03-06": api.ErrRange,
		"every 999999999 days from 2024-03-06": api.ErrRange, "every -999999999 days from 2024-03-06": api.ErrRange,
		months("times 5001"): api.ErrRange, months("times -1"): api.ErrRange, months("times 999999999"): api.ErrRange,
		months("on mon"): api.ErrForm, "every 1 day from 2024-03-06 on mon": api.ErrForm, "every 1 week from 2024-03-06 on 2th mon": api.ErrForm, "every 1 year from 2024-03-06 on mon": api.ErrForm,
		"every 1 day from 2024-03-06 dates 1": api.ErrForm, "every 1 week from 2024-03-06 dates 0": api.ErrForm, months("on 1th mon dates 1"): api.ErrForm,
		months("on 1th mon mon"): api.ErrOrder, months("on 6th tue mon"): api.ErrOrder, months("on 6th mon"): api.ErrRange, months("on -6th mon"): api.ErrRange, months("on 999999999th mon"): api.ErrRange,
		months("dates 0"): api.ErrRange, months("dates 32"): api.ErrRange, months("dates -32"): api.ErrRange, months("dates 5 4"): api.ErrOrder, months("dates 5 5"): api.ErrOrder, months("dates -999999999 999999999"): api.ErrRange,
		months("skip 2024-03-08 2024-03-07"): api.ErrOrder, months("skip 2024-03-08 2024-03-08"): api.ErrOrder,
		months("skip" + strings.Repeat(" 2024-03-08", day.MaxSkip+1)): api.ErrLarge, months("skip" + strings.Repeat(" 2024-03-08", day.MaxSkip)): api.ErrOrder,
	} {
		read, got := day.ReadRule(s)
		want(t, s, read, day.Rule{}, got, bad)
	}
}

func TestReadRuleOfLongStrings(t *testing.T) {
	s := "every 1 month from 2024-03-06 dates"
	s += strings.Repeat(" 5", (api.MaxString-len(s))/2-1)
	for _, c := range []struct {
		end string
		bad api.Errno
	}{{" 55", api.ErrOrder}, {" 5.", api.ErrSyntax}, {" 555", api.ErrLarge}, {" 5..", api.ErrLarge}} {
		wantError(t, fmt.Sprint(len(s+c.end), c.end), second(day.ReadRule(s+c.end)), c.bad)
	}
	wantError(t, "long", second(day.ReadRule(strings.Repeat("x", 1<<20))), api.ErrLarge)
}
