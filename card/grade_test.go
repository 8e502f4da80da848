package card_test

import (
	"fmt"
	"math"
	"slices"
	"testing"

	"florilegium/api"
	"florilegium/card"
)

// P7.4

// The states before and after are written as StateText does.
func TestGrade(t *testing.T) {
	for _, c := range []struct {
		before     string
		grade, day int
		after      string
	}{
		// A new card, and one that was forgotten.
		{"5 1 0 250 -1 -1 0 0 -1", card.Again, 10, "5 1 0 230 11 10 1 0 -1"},
		{"5 1 0 250 -1 -1 0 0 -1", card.Hard, 10, "5 1 1 235 11 10 1 0 -1"},
		{"5 1 0 250 -1 -1 0 0 -1", card.Good, 10, "5 1 2 250 12 10 1 0 -1"},
		{"5 1 0 250 -1 -1 0 0 -1", card.Easy, 10, "5 1 4 265 14 10 1 0 -1"},
		{"5 1 0 250 -1 -1 0 0 99", card.Easy, 0, "5 1 4 265 4 0 1 0 -1"},
		{"5 1 0 180 10 9 7 3 20", card.Again, 50, "5 1 0 160 51 50 8 3 -1"},
		{"5 1 0 180 10 9 7 3 20", card.Hard, 50, "5 1 1 165 51 50 8 3 -1"},
		{"5 1 0 180 10 9 7 3 20", card.Good, 9, "5 1 2 180 11 9 8 3 -1"},
		// The example of the chapter, and the other grades on its days.
		{"5 1 2 250 12 10 1 0 -1", card.Hard, 12, "5 1 3 235 15 12 2 0 -1"},
		{"5 1 2 250 12 10 1 0 -1", card.Good, 12, "5 1 5 250 17 12 2 0 -1"},
		{"5 1 2 250 12 10 1 0 -1", card.Easy, 12, "5 1 6 265 18 12 2 0 -1"},
		{"5 1 5 250 17 12 2 0 -1", card.Again, 17, "5 1 0 230 18 17 3 1 -1"},
		// Early: the days count as Step. Late: at most 30 more count.
		{"5 1 100 200 120 20 1 0 -1", card.Hard, 20, "5 1 120 185 140 20 2 0 -1"},
		{"5 1 100 200 120 20 1 0 -1", card.Hard, 60, "5 1 120 185 180 60 2 0 -1"},
		{"5 1 100 200 120 20 1 0 -1", card.Good, 119, "5 1 200 200 319 119 2 0 -1"},
		{"5 1 100 200 120 20 1 0 -1", card.Good, 121, "5 1 202 200 323 121 2 0 -1"},
		{"5 1 100 200 120 20 1 0 -1", card.Easy, 120, "5 1 260 215 380 120 2 0 -1"},
		{"5 1 100 200 120 20 1 0 -1", card.Good, 150, "5 1 260 200 410 150 2 0 -1"},
		{"5 1 100 200 120 20 1 0 -1", card.Good, 151, "5 1 260 200 411 151 2 0 -1"},
		{"5 1 100 200 120 20 1 0 -1", card.Easy, 99999, "5 1 338 215 100000 99999 2 0 -1"},
		{"5 1 100 200 120 20 1 0 -1", card.Hard, 9999, "5 1 156 185 10155 9999 2 0 -1"},
		// Each grade leads to a greater Step than the one below it.
		{"5 1 1 130 11 10 1 0 -1", card.Hard, 11, "5 1 2 130 13 11 2 0 -1"},
		{"5 1 1 130 11 10 1 0 -1", card.Good, 11, "5 1 3 130 14 11 2 0 -1"},
		{"5 1 1 130 11 10 1 0 -1", card.Easy, 11, "5 1 4 145 15 11 2 0 -1"},
		// Quotients are rounded down: 12 times 9, 133 times 7, 13 times 133 times 7.
		{"5 1 9 133 19 10 1 0 -1", card.Hard, 19, "5 1 10 130 29 19 2 0 -1"},
		{"5 1 39 133 49 10 1 0 -1", card.Hard, 49, "5 1 46 130 95 49 2 0 -1"},
		{"5 1 39 133 49 10 1 0 -1", card.Good, 49, "5 1 51 133 100 49 2 0 -1"},
		{"5 1 39 133 49 10 1 0 -1", card.Easy, 49, "5 1 67 148 116 49 2 0 -1"},
		// The bounds of Ease, Step, Due, Times and Lapses.
		{"5 1 0 144 10 9 1 0 -1", card.Hard, 10, "5 1 1 130 11 10 2 0 -1"}, {"5 1 0 145 10 9 1 0 -1", card.Hard, 10, "5 1 1 130 11 10 2 0 -1"}, {"5 1 0 146 10 9 1 0 -1", card.Hard, 10, "5 1 1 131 11 10 2 0 -1"},
		{"5 1 0 149 10 9 1 0 -1", card.Again, 10, "5 1 0 130 11 10 2 0 -1"}, {"5 1 0 151 10 9 1 0 -1", card.Again, 10, "5 1 0 131 11 10 2 0 -1"},
		{"5 1 0 386 10 9 1 0 -1", card.Easy, 10, "5 1 4 400 14 10 2 0 -1"}, {"5 1 0 384 10 9 1 0 -1", card.Easy, 10, "5 1 4 399 14 10 2 0 -1"},
		{"5 1 3650 400 4000 350 1 0 -1", card.Hard, 4000, "5 1 3650 385 7650 4000 2 0 -1"}, {"5 1 3650 400 4000 350 1 0 -1", card.Easy, 4000, "5 1 3650 400 7650 4000 2 0 -1"},
		{"5 1 1460 250 1460 0 1 0 -1", card.Good, 1460, "5 1 3650 250 5110 1460 2 0 -1"}, {"5 1 1459 250 1459 0 1 0 -1", card.Good, 1459, "5 1 3647 250 5106 1459 2 0 -1"},
		{"5 1 0 250 100000 99999 1 0 -1", card.Again, 100000, "5 1 0 230 100000 100000 2 0 -1"}, {"5 1 0 250 100000 99998 1 0 -1", card.Again, 99999, "5 1 0 230 100000 99999 2 0 -1"},
		{"5 1 0 250 100000 99998 1 0 -1", card.Easy, 99995, ""}, {"5 1 0 250 99990 99990 1 0 -1", card.Easy, 99997, "5 1 4 265 100000 99997 2 0 -1"}, {"5 1 0 250 99990 99990 1 0 -1", card.Easy, 99995, "5 1 4 265 99999 99995 2 0 -1"},
		{"5 1 1 250 9 9 20000 20000 -1", card.Again, 10, "5 1 0 230 11 10 20000 20000 -1"}, {"5 1 1 250 9 9 20000 19999 -1", card.Again, 10, "5 1 0 230 11 10 20000 20000 -1"},
		{"5 1 1 250 9 9 19999 0 -1", card.Good, 10, "5 1 3 250 13 10 20000 0 -1"}, {"5 1 1 250 9 9 20000 0 -1", card.Good, 10, "5 1 3 250 13 10 20000 0 -1"},
	} {
		var wanted card.State
		wantedBad := api.ErrOrder
		if c.after != "" {
			wanted, wantedBad = words(t, c.after), api.OK
		}
		got, bad := card.Grade(words(t, c.before), c.grade, c.day)
		want(t, fmt.Sprint(c), got, wanted, bad, wantedBad)
	}
}

func TestErrorsOfGrade(t *testing.T) {
	x := made(5, card.Good, 10)
	for _, c := range []struct {
		grade, day int
		bad        api.Errno
	}{
		{0, 10, api.ErrKind}, {5, 10, api.ErrKind}, {-1, 10, api.ErrKind}, {math.MinInt, 10, api.ErrKind}, {math.MaxInt, 10, api.ErrKind}, {0, -1, api.ErrKind}, {5, 9, api.ErrKind},
		{1, -1, api.ErrRange}, {4, api.MaxDay + 1, api.ErrRange}, {2, math.MinInt, api.ErrRange}, {3, math.MaxInt, api.ErrRange},
		{1, 9, api.ErrOrder}, {3, 0, api.ErrOrder}, {4, 9, api.ErrOrder}, {3, 10, api.OK}, {3, api.MaxDay, api.OK},
	} {
		got, bad := card.Grade(x, c.grade, c.day)
		wantError(t, fmt.Sprint(c), bad, c.bad)
		if bad != api.OK {
			want(t, fmt.Sprint(c), got, card.State{}, 0, 0)
		}
		if c.bad == api.ErrKind {
			continue
		}
		dues, bad := card.Chances(x, c.day)
		wantError(t, fmt.Sprint("Chances ", c.day), bad, c.bad)
		want(t, fmt.Sprint("Chances ", c.day), len(dues), map[bool]int{true: 4}[bad == api.OK], 0, 0)
	}
}

func TestChances(t *testing.T) {
	for _, c := range []struct {
		state string
		day   int
		dues  []int
	}{
		{"5 1 0 250 -1 -1 0 0 -1", 7, []int{8, 8, 9, 11}}, {"5 1 2 250 12 10 1 0 -1", 12, []int{13, 15, 17, 18}}, {"5 1 2 250 12 10 1 0 50", 15, []int{16, 21, 27, 31}},
		{"5 1 2 250 12 10 1 0 -1", 10, []int{11, 13, 15, 16}}, {"5 1 0 250 9 9 1 0 -1", api.MaxDay, []int{api.MaxDay, api.MaxDay, api.MaxDay, api.MaxDay}},
		{"5 1 0 250 9 9 1 0 -1", api.MaxDay - 2, []int{api.MaxDay - 1, api.MaxDay - 1, api.MaxDay, api.MaxDay}}, {"5 1 3650 250 9 9 1 0 -1", 9, []int{10, 3659, 3659, 3659}},
	} {
		got, bad := card.Chances(words(t, c.state), c.day)
		want(t, fmt.Sprint(c), got, c.dues, bad, api.OK)
	}
}

// P7.5

func TestReplay(t *testing.T) {
	l := []card.Review{{5, 2, 3, 1}, {5, 1, 3, 10}, {6, 1, 9, -1}, {5, 1, 3, 12}, {0, 0, 0, 0}, {5, 1, 1, 17}, {5, 2, 3, 0}}
	for _, c := range []struct {
		block, no int
		l         []card.Review
		state     string
	}{
		{5, 1, l, "5 1 0 230 18 17 3 1 -1"}, {5, 1, l[:5], "5 1 5 250 17 12 2 0 -1"}, {5, 1, l[:1], "5 1 0 250 -1 -1 0 0 -1"}, {5, 1, nil, "5 1 0 250 -1 -1 0 0 -1"},
		{5, 2, l[:6], "5 2 2 250 3 1 1 0 -1"}, {6, 2, l, "6 2 0 250 -1 -1 0 0 -1"}, {1, 5, l, "1 5 0 250 -1 -1 0 0 -1"},
	} {
		got, at, bad := card.Replay(c.block, c.no, c.l)
		want(t, fmt.Sprint(c), got, words(t, c.state), bad, api.OK)
		want(t, fmt.Sprint(c), at, 0, 0, 0)
	}
}

func TestErrorsOfReplay(t *testing.T) {
	l := []card.Review{{5, 1, 3, 10}, {6, 1, 3, 5}, {5, 1, 3, 12}, {7, 7, 0, -1}}
	tooMany := reviewsOf(card.MaxReviews + 1)
	for _, c := range []struct {
		block, no int
		l         []card.Review
		at        int
		bad       api.Errno
	}{
		{5, 1, append(l[:4:4], card.Review{Block: 5, No: 1, Grade: 3, Day: 11}), 4, api.ErrOrder}, {5, 1, append(l[:2:2], card.Review{Block: 5, No: 1, Grade: 0, Day: -1}), 2, api.ErrKind},
		{5, 1, append(l[:3:3], card.Review{Block: 5, No: 1, Grade: 3, Day: -1}, card.Review{Block: 5, No: 1}), 3, api.ErrRange}, {6, 1, append(l[:3:3], card.Review{Block: 6, No: 1, Grade: 5, Day: 9}), 3, api.ErrKind},
		{9, 1, []card.Review{{Block: 9, No: 1}}, 0, api.ErrKind}, {0, 1, tooMany, 0, api.ErrRange}, {1, 21, l, 0, api.ErrRange}, {1, 1, tooMany, 0, api.ErrLarge}, {9, 1, tooMany, 0, api.ErrLarge},
	} {
		got, at, bad := card.Replay(c.block, c.no, c.l)
		name := fmt.Sprint(c.block, c.no, len(c.l), c.bad)
		want(t, name, got, card.State{}, bad, c.bad)
		want(t, name, at, c.at, 0, 0)
	}
	got, _, bad := card.Replay(1, 1, reviewsOf(card.MaxReviews))
	want(t, "as many as there can be", got, card.State{Block: 1, No: 1, Ease: card.MinEase, Due: 1, Times: card.MaxReviews, Buried: -1}, bad, api.OK)
}

// What follows: Replay is Grade, one after the other; a state after Grade is right; no chance is before the one before it.
func TestWhatFollowsOfGrades(t *testing.T) {
	var d dice
	for range rounds(t, 3000) {
		x := must(card.New(7, 3))
		var l []card.Review
		day := d.day()
		for range d.next(30) {
			grade := one(&d, card.Again, card.Hard, card.Good, card.Good, card.Easy)
			l = append(l, card.Review{Block: 7, No: 3, Grade: grade, Day: day})
			x = must(card.Grade(x, grade, day))
			wantError(t, fmt.Sprint(x), card.CheckState(x), api.OK)
			day = min(api.MaxDay, one(&d, x.Due, x.Due, x.Last, x.Last+d.next(x.Step+50)))
			dues := must(card.Chances(x, day))
			if i := slices.Index(dues, api.MaxDay); i >= 0 {
				dues = dues[:i]
			}
			if !slices.IsSorted(dues) {
				t.Fatal(x, dues)
			}
		}
		got, at, bad := card.Replay(7, 3, l)
		want(t, fmt.Sprint(l), got, x, bad, api.OK)
		want(t, fmt.Sprint(l), at, 0, 0, 0)
	}
}
