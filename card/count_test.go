package card_test

import (
	"fmt"
	"math"
	"testing"

	"florilegium/api"
	"florilegium/card"
)

// P7.8

func TestLoads(t *testing.T) {
	for _, c := range []struct {
		from, days int
		loads      []int
	}{
		{12, 3, []int{5, 0, 0}}, {10, 7, []int{2, 0, 3, 0, 0, 0, 1}}, {9, 4, []int{0, 2, 0, 3}}, {11, 6, []int{2, 3, 0, 0, 0, 1}}, {16, 1, []int{6}}, {17, 2, []int{6, 0}}, {0, 3, []int{0, 0, 0}}, {12, 0, nil}, {0, 0, nil},
		{api.MaxDay, 3, []int{6, 0, 0}}, {0, 17, []int{0, 0, 0, 0, 0, 0, 0, 0, 0, 0, 2, 0, 3, 0, 0, 0, 1}}, {0, 16, []int{0, 0, 0, 0, 0, 0, 0, 0, 0, 0, 2, 0, 3, 0, 0, 0}},
	} {
		got, bad := card.Loads(deck(), c.from, c.days)
		want(t, fmt.Sprint(c), got, c.loads, bad, api.OK)
	}
	for _, c := range []struct {
		from, days int
		bad        api.Errno
	}{
		{-1, 3, api.ErrRange}, {api.MaxDay + 1, 3, api.ErrRange}, {0, -1, api.ErrRange}, {0, card.MaxYear + 1, api.ErrRange}, {api.MaxDay, card.MaxYear, api.OK},
		{math.MinInt, 3, api.ErrRange}, {math.MaxInt, 3, api.ErrRange}, {5, math.MinInt, api.ErrRange}, {5, math.MaxInt, api.ErrRange},
	} {
		got, bad := card.Loads(deck(), c.from, c.days)
		wantError(t, fmt.Sprint(c), bad, c.bad)
		want(t, fmt.Sprint(c), len(got), map[bool]int{true: c.days}[bad == api.OK], 0, 0)
	}
}

func TestLeeches(t *testing.T) {
	var l []card.State
	for i, lapses := range []int{0, 3, 1, 2, 3, 0} {
		l = append(l, card.State{Block: i + 1, No: 1, Ease: 250, Due: 9, Last: 9, Times: 5, Lapses: lapses, Buried: -1})
	}
	for lapses, leeches := range map[int][]int{1: {1, 2, 3, 4}, 2: {1, 3, 4}, 3: {1, 4}, 4: nil, card.MaxReviews + 1: nil, math.MaxInt: nil} {
		got, bad := card.Leeches(l, lapses)
		want(t, fmt.Sprint(lapses), got, leeches, bad, api.OK)
	}
	for _, lapses := range []int{0, -1, math.MinInt} {
		got, bad := card.Leeches(l, lapses)
		want(t, fmt.Sprint(lapses), got, nil, bad, api.ErrRange)
	}
}

func TestCounts(t *testing.T) {
	l := deck()
	for i, step := range []int{1, 0, 20, 0, 21, card.MaxStep, 0, 0, 0, 0} {
		l[i].Step = step
	}
	for day, count := range map[int]card.Count{
		0: {New: 4, Learning: 2, Young: 2, Old: 2}, 11: {New: 4, Learning: 2, Young: 2, Old: 2, Due: 1}, 12: {New: 4, Learning: 2, Young: 2, Old: 2, Due: 4},
		15: {New: 4, Learning: 2, Young: 2, Old: 2, Due: 4}, 16: {New: 4, Learning: 2, Young: 2, Old: 2, Due: 6}, api.MaxDay: {New: 4, Learning: 2, Young: 2, Old: 2, Due: 6},
	} {
		got, bad := card.Counts(l, day)
		want(t, fmt.Sprint(day), got, count, bad, api.OK)
	}
	got, bad := card.Counts(nil, 0)
	want(t, "no states", got, card.Count{}, bad, api.OK)
	for _, day := range []int{-1, api.MaxDay + 1, math.MinInt, math.MaxInt} {
		got, bad := card.Counts(l, day)
		want(t, fmt.Sprint(day), got, card.Count{}, bad, api.ErrRange)
	}
}

func TestKept(t *testing.T) {
	l := []card.Review{{1, 1, card.Again, 5}, {1, 1, card.Hard, 6}, {2, 1, card.Good, 6}, {1, 1, card.Easy, 4}, {0, 0, 0, 6}, {-1, 0, 99, 7}, {1, 1, card.Good, -9}, {1, 1, card.Good, math.MaxInt}, {1, 1, -3, math.MinInt}}
	for _, c := range []struct {
		from, to, good, all int
	}{
		{5, 6, 2, 4}, {4, 7, 4, 6}, {6, 6, 2, 3}, {5, 5, 0, 1}, {8, 99, 0, 0}, {-9, 5, 2, 3}, {math.MinInt, math.MaxInt, 6, 9}, {math.MaxInt, math.MaxInt, 1, 1}, {math.MinInt, math.MinInt, 0, 1}, {-8, 3, 0, 0},
	} {
		good, all, bad := card.Kept(l, c.from, c.to)
		want(t, fmt.Sprint(c), good, c.good, bad, api.OK)
		want(t, fmt.Sprint(c), all, c.all, bad, api.OK)
	}
	for _, c := range []struct {
		count, from, to, all int
		bad                  api.Errno
	}{
		{0, 0, 0, 0, api.OK}, {card.MaxReviews, 0, 0, card.MaxReviews, api.OK}, {card.MaxReviews + 1, 0, 0, 0, api.ErrLarge}, {card.MaxReviews + 1, 1, 0, 0, api.ErrLarge},
		{9, 1, 0, 0, api.ErrOrder}, {9, 0, -1, 0, api.ErrOrder}, {9, math.MaxInt, math.MinInt, 0, api.ErrOrder},
	} {
		good, all, bad := card.Kept(reviewsOf(c.count), c.from, c.to)
		want(t, fmt.Sprint(c), good, 0, bad, c.bad)
		want(t, fmt.Sprint(c), all, c.all, bad, c.bad)
	}
}
