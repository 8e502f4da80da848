package day_test

import (
	"fmt"
	"math"
	"testing"

	"florilegium/api"
	"florilegium/day"
)

// P6.5

func TestGrid(t *testing.T) {
	row := func(before, from, to, after int) []int {
		var week []int
		for range before {
			week = append(week, -1)
		}
		week = append(week, rising(from, to-from+1)...)
		for range after {
			week = append(week, -1)
		}
		return week
	}
	for _, c := range []struct {
		year, month int
		weeks       [][]int
	}{
		{2001, 1, [][]int{row(0, 0, 6, 0), row(0, 7, 13, 0), row(0, 14, 20, 0), row(0, 21, 27, 0), row(0, 28, 30, 4)}},
		{2024, 2, [][]int{row(3, 8431, 8434, 0), row(0, 8435, 8441, 0), row(0, 8442, 8448, 0), row(0, 8449, 8455, 0), row(0, 8456, 8459, 3)}},
		{2010, 2, [][]int{row(0, 3318, 3324, 0), row(0, 3325, 3331, 0), row(0, 3332, 3338, 0), row(0, 3339, 3345, 0)}},
		{2024, 9, [][]int{row(6, 8644, 8644, 0), row(0, 8645, 8651, 0), row(0, 8652, 8658, 0), row(0, 8659, 8665, 0), row(0, 8666, 8672, 0), row(0, 8673, 8673, 6)}},
		{2274, 9, [][]int{row(1, 99954, 99959, 0), row(0, 99960, 99966, 0), row(0, 99967, 99973, 0), row(0, 99974, 99980, 0), row(0, 99981, 99983, 4)}},
	} {
		got, bad := day.Grid(c.year, c.month)
		want(t, fmt.Sprint(c.year, c.month), got, c.weeks, bad, api.OK)
	}
	for _, c := range [][2]int{
		{2024, 0}, {2024, 13}, {2024, -1}, {2000, 12}, {2274, 10}, {2274, 11}, {2275, 1}, {0, 1}, {-2024, 3},
		{math.MaxInt, 1}, {math.MinInt, 1}, {2024, math.MaxInt}, {2024, math.MinInt}, {math.MaxInt, math.MaxInt},
	} {
		got, bad := day.Grid(c[0], c[1])
		want(t, fmt.Sprint(c), got, nil, bad, api.ErrRange)
	}
}

func TestStreak(t *testing.T) {
	all := rising(0, day.MaxDays)
	for _, c := range []struct {
		name string
		days []int
		day  int
		n    int
		bad  api.Errno
	}{
		{"empty", nil, 5, 0, api.OK},
		{"itself", []int{5}, 5, 1, api.OK},
		{"the day before", []int{5}, 6, 1, api.OK},
		{"two days before", []int{5}, 7, 0, api.OK},
		{"later", []int{5}, 4, 0, api.OK},
		{"in any order, some twice", []int{9, 7, 8, 9, 5, 7, 12}, 9, 3, api.OK},
		{"in any order, from the day before", []int{9, 7, 8, 9, 5, 7, 12}, 10, 3, api.OK},
		{"a gap", []int{9, 7, 8, 9, 5, 7, 12}, 6, 1, api.OK},
		{"after a gap", []int{9, 7, 8, 9, 5, 7, 12}, 12, 1, api.OK},
		{"in the middle", []int{9, 7, 8, 9, 5, 7, 12}, 8, 2, api.OK},
		{"all days before", all, day.MaxDays - 1, day.MaxDays, api.OK},
		{"all days before, from the day before", all, day.MaxDays, day.MaxDays, api.OK},
		{"day 0", []int{0}, 0, 1, api.OK},
		{"not day 0", []int{1}, 0, 0, api.OK},
		{"up to day 0", []int{0, 1, 2}, 2, 3, api.OK},
		{"last day", []int{api.MaxDay, api.MaxDay - 1}, api.MaxDay, 2, api.OK},
		{"too many", append(all, 0), 5, 0, api.ErrLarge},
		{"too many wrong ones", make([]int, day.MaxDays+1), -1, 0, api.ErrLarge},
		{"below 0", []int{1, -1}, 1, 0, api.ErrRange},
		{"too great", []int{api.MaxDay + 1, 1}, 1, 0, api.ErrRange},
		{"day below 0", []int{1}, -1, 0, api.ErrRange},
		{"day too great", nil, api.MaxDay + 1, 0, api.ErrRange},
		{"least number", nil, math.MinInt, 0, api.ErrRange},
		{"greatest number", []int{math.MaxInt}, math.MaxInt, 0, api.ErrRange},
	} {
		got, bad := day.Streak(c.days, c.day)
		want(t, c.name, got, c.n, bad, c.bad)
	}
}
