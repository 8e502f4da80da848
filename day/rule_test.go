package day_test

import (
	"fmt"
	"math"
	"testing"

	"florilegium/api"
	"florilegium/day"
)

// P6.1

func TestCheckRuleOfRightRules(t *testing.T) {
	for i, r := range []day.Rule{
		{Unit: day.Days, Every: 1, Until: -1},
		{Unit: day.Days, Every: day.MaxEvery, From: api.MaxDay, Until: api.MaxDay, Count: day.MaxDays},
		{Unit: day.Days, Every: 1, From: 9, Until: 0},
		{Unit: day.Weeks, Every: 1, Until: -1},
		{Unit: day.Weeks, Every: 1, Until: -1, Weekdays: rising(0, 7)},
		{Unit: day.Months, Every: 1, Until: -1},
		{Unit: day.Months, Every: 1, Until: -1, Weekdays: []int{0}, Nth: -5},
		{Unit: day.Months, Every: 1, Until: -1, Weekdays: []int{6}, Nth: 5},
		{Unit: day.Months, Every: 1, Until: -1, Dates: append(rising(-31, 31), rising(1, 31)...)},
		{Unit: day.Years, Every: 1, Until: -1, Skip: rising(0, day.MaxSkip)},
		{Unit: day.Years, Every: 1, Until: -1, Skip: []int{0, api.MaxDay}},
	} {
		wantError(t, fmt.Sprint(i), day.CheckRule(r), api.OK)
	}
}

// wrongRules are rules that may not be, each with its error. Where it can be, what comes later in the list of errors is wrong, too.
func wrongRules() []struct {
	rule day.Rule
	bad  api.Errno
} {
	with := func(change func(r *day.Rule)) day.Rule {
		r := day.Rule{Unit: day.Months, Every: 1, Until: -1}
		change(&r)
		return r
	}
	long := rising(0, day.MaxSkip+1)
	long[0] = -1
	return []struct {
		rule day.Rule
		bad  api.Errno
	}{
		{day.Rule{}, api.ErrKind},
		{day.Rule{Unit: day.Years + 1, Every: 1}, api.ErrKind},
		{day.Rule{Unit: -1, Every: 1, Nth: 9}, api.ErrKind},
		{day.Rule{Unit: math.MaxInt, Every: math.MaxInt}, api.ErrKind},
		{day.Rule{Unit: day.Days}, api.ErrRange},
		{day.Rule{Unit: day.Days, Every: -1, Nth: 1}, api.ErrRange},
		{day.Rule{Unit: day.Days, Every: day.MaxEvery + 1, Dates: []int{1}}, api.ErrRange},
		{day.Rule{Unit: day.Days, Every: 1, From: -1, Nth: 1}, api.ErrRange},
		{day.Rule{Unit: day.Days, Every: 1, From: api.MaxDay + 1, Nth: 1}, api.ErrRange},
		{day.Rule{Unit: day.Days, Every: 1, Until: -2, Nth: 1}, api.ErrRange},
		{day.Rule{Unit: day.Days, Every: 1, Until: api.MaxDay + 1, Nth: 1}, api.ErrRange},
		{day.Rule{Unit: day.Days, Every: 1, Count: -1, Nth: 1}, api.ErrRange},
		{day.Rule{Unit: day.Days, Every: 1, Count: day.MaxDays + 1, Nth: 1}, api.ErrRange},
		{day.Rule{Unit: day.Days, Every: 1, Weekdays: []int{9}}, api.ErrForm},
		{day.Rule{Unit: day.Years, Every: 1, Weekdays: []int{9}}, api.ErrForm},
		{day.Rule{Unit: day.Days, Every: 1, Dates: []int{0}}, api.ErrForm},
		{day.Rule{Unit: day.Weeks, Every: 1, Dates: []int{0}}, api.ErrForm},
		{day.Rule{Unit: day.Years, Every: 1, Dates: []int{0}}, api.ErrForm},
		{with(func(r *day.Rule) { r.Weekdays, r.Nth, r.Dates = []int{9}, 9, []int{0} }), api.ErrForm},
		{with(func(r *day.Rule) { r.Weekdays = []int{9} }), api.ErrForm},
		{with(func(r *day.Rule) { r.Nth = 1 }), api.ErrForm},
		{with(func(r *day.Rule) { r.Nth, r.Dates = 1, []int{1} }), api.ErrForm},
		{day.Rule{Unit: day.Weeks, Every: 1, Weekdays: []int{9}, Nth: -1}, api.ErrForm},
		{day.Rule{Unit: day.Weeks, Every: 1, Nth: 1}, api.ErrForm},
		{day.Rule{Unit: day.Days, Every: 1, Nth: -1, Skip: long}, api.ErrForm},
		{day.Rule{Unit: day.Years, Every: 1, Nth: 1}, api.ErrForm},
		{with(func(r *day.Rule) { r.Weekdays, r.Nth = []int{-1, -1}, 6 }), api.ErrRange},
		{with(func(r *day.Rule) { r.Weekdays, r.Nth = []int{7}, 1 }), api.ErrRange},
		{with(func(r *day.Rule) { r.Weekdays, r.Nth = []int{1, 1, 7}, 6 }), api.ErrOrder},
		{with(func(r *day.Rule) { r.Weekdays, r.Nth = []int{3, 2}, 1 }), api.ErrOrder},
		{with(func(r *day.Rule) { r.Weekdays, r.Nth = []int{1, -1}, 1 }), api.ErrRange},
		{with(func(r *day.Rule) { r.Dates = []int{-32} }), api.ErrRange},
		{with(func(r *day.Rule) { r.Dates = []int{32, 1} }), api.ErrRange},
		{with(func(r *day.Rule) { r.Dates = []int{-1, 0} }), api.ErrRange},
		{with(func(r *day.Rule) { r.Dates, r.Skip = []int{1, -1}, long }), api.ErrOrder},
		{with(func(r *day.Rule) { r.Dates, r.Skip = []int{5, 5}, long }), api.ErrOrder},
		{with(func(r *day.Rule) { r.Weekdays, r.Nth, r.Skip = []int{1}, 6, long }), api.ErrRange},
		{with(func(r *day.Rule) { r.Weekdays, r.Nth, r.Skip = []int{1}, -6, long }), api.ErrRange},
		{with(func(r *day.Rule) { r.Weekdays, r.Nth = []int{1}, math.MinInt }), api.ErrRange},
		{with(func(r *day.Rule) { r.Skip = long }), api.ErrLarge},
		{with(func(r *day.Rule) { r.Skip = []int{-1} }), api.ErrRange},
		{with(func(r *day.Rule) { r.Skip = []int{5, api.MaxDay + 1} }), api.ErrRange},
		{with(func(r *day.Rule) { r.Skip = []int{5, 5, -1} }), api.ErrOrder},
		{with(func(r *day.Rule) { r.Skip = []int{5, 4} }), api.ErrOrder},
		{with(func(r *day.Rule) { r.Skip = []int{5, -1} }), api.ErrRange},
	}
}

func TestCheckRuleOfWrongRules(t *testing.T) {
	for _, c := range wrongRules() {
		wantError(t, fmt.Sprint(c.rule), day.CheckRule(c.rule), c.bad)
	}
}

// All functions look at the rule first, and then at the days.
func TestWrongRulesComeFirst(t *testing.T) {
	for _, c := range wrongRules() {
		for name, got := range map[string]api.Errno{
			"RuleText": second(day.RuleText(c.rule)), "Occurs": second(day.Occurs(c.rule, -1)), "Next": second(day.Next(c.rule, -1)),
			"Before": second(day.Before(c.rule, -1)), "Number": second(day.Number(c.rule, -1)),
			"Between": second(day.Between(c.rule, 9, 8)), "Between, days that are none": second(day.Between(c.rule, -1, api.MaxDay+1)),
		} {
			wantError(t, name+fmt.Sprint(c.rule), got, c.bad)
		}
	}
	r := rule("1 day")
	for _, at := range []int{math.MinInt, -1, api.MaxDay + 1, math.MaxInt} {
		for name, got := range map[string]api.Errno{
			"Occurs": second(day.Occurs(r, at)), "Next": second(day.Next(r, at)), "Before": second(day.Before(r, at)), "Number": second(day.Number(r, at)),
		} {
			wantError(t, fmt.Sprint(name, at), got, api.ErrRange)
		}
	}
}
