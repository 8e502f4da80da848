package day_test

import (
	"fmt"
	"math"
	"testing"

	"florilegium/api"
	"florilegium/day"
)

// P6.8

func TestTitle(t *testing.T) {
	for at, title := range map[int]string{0: "2001-01-01", march: "2024-03-06", api.MaxDay: "2274-10-17"} {
		got, bad := day.Title(at)
		want(t, title, got, title, bad, api.OK)
	}
	for _, at := range []int{-1, api.MaxDay + 1, math.MinInt, math.MaxInt} {
		got, bad := day.Title(at)
		want(t, fmt.Sprint(at), got, "", bad, api.ErrRange)
	}
}

// diary is a base with pages of days; those of one day are not in the order of their ids.
func diary() []api.Block {
	return base(
		"9 2024-03-06", "  3 2024-03-06", "  4 2024-03-07", "7 2024-03-06", "8 2024-03-06", "5 2024-03-05", "6 2274-10-17", "20 2001-01-01",
		"10 2024-03-08 ", "11  2024-03-08", "12 2024-3-8", "13 2024-02-30", "14 2274-10-18", "15 2000-12-31", "16 [[2024-03-08]]", "17 20240308", "18 ", "19 page ; alias:: \"2024-03-08\"",
	)
}

func TestDaily(t *testing.T) {
	for _, c := range []struct {
		day, page int
		bad       api.Errno
	}{
		{march, 7, api.OK}, {march - 1, 5, api.OK}, {0, 20, api.OK}, {api.MaxDay, 6, api.OK},
		{march + 1, 0, api.ErrNone}, {march + 2, 0, api.ErrNone}, {1, 0, api.ErrNone},
		{-1, 0, api.ErrRange}, {api.MaxDay + 1, 0, api.ErrRange}, {math.MinInt, 0, api.ErrRange}, {math.MaxInt, 0, api.ErrRange},
	} {
		got, bad := day.Daily(diary(), c.day)
		want(t, fmt.Sprint(c.day), got, c.page, bad, c.bad)
	}
	wantError(t, "empty base", second(day.Daily([]api.Block{{}}, 0)), api.ErrNone)
}

func TestDailies(t *testing.T) {
	got, bad := day.Dailies(diary())
	want(t, "diary", got, []int{0, march - 1, march, api.MaxDay}, bad, api.OK)
	got, bad = day.Dailies([]api.Block{{}})
	want(t, "empty base", got, nil, bad, api.OK)
}
