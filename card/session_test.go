package card_test

import (
	"fmt"
	"math"
	"slices"
	"testing"

	"florilegium/api"
	"florilegium/card"
)

// P7.7

// deck is a list of states; block 2, 4, 7 and 8 were never asked, 6 and 7 are buried.
func deck() []card.State {
	state := func(block, due, ease, buried int) card.State {
		x := card.State{Block: block, No: 1, Ease: ease, Due: due, Last: due, Times: 1, Buried: buried}
		if due < 0 {
			x.Times = 0
		}
		return x
	}
	return []card.State{
		state(1, 12, 250, -1), state(2, -1, 250, -1), state(3, 12, 230, -1), state(4, -1, 130, 5), state(5, 10, 400, -1),
		state(6, 10, 300, 15), state(7, -1, 250, 15), state(8, -1, 250, -1), state(9, 12, 250, -1), state(10, 16, 130, -1),
	}
}

func TestDue(t *testing.T) {
	for day, due := range map[int][]int{
		0: nil, 9: nil, 10: {4}, 11: {4}, 12: {4, 2, 0, 8}, 15: {4, 2, 0, 8}, 16: {5, 4, 2, 0, 8, 9}, api.MaxDay: {5, 4, 2, 0, 8, 9},
	} {
		got, bad := card.Due(deck(), day)
		want(t, fmt.Sprint(day), got, due, bad, api.OK)
	}
	got, bad := card.Due(nil, 0)
	want(t, "no states", got, nil, bad, api.OK)
	got, bad = card.Due([]card.State{{Block: 1, No: 1, Ease: 250, Times: 1, Buried: -1}, {Block: 2, No: 1, Ease: 250, Times: 1, Buried: 0}}, 0)
	want(t, "the first day", got, []int{0}, bad, api.OK)
	for _, day := range []int{-1, api.MaxDay + 1, math.MinInt, math.MaxInt} {
		got, bad := card.Due(deck(), day)
		want(t, fmt.Sprint(day), got, nil, bad, api.ErrRange)
	}
}

// Of those with the same Due and Ease the first one comes first, also where they are many.
func TestDueOfMany(t *testing.T) {
	l := many(card.MaxStates)
	var places [6][]int
	for at := range l {
		due, ease := at%7%3, at%5%2
		l[at] = card.State{Block: at + 1, No: 1, Ease: 250 + ease, Due: due, Last: due, Times: 1, Buried: -1}
		places[2*due+ease] = append(places[2*due+ease], at)
	}
	got, bad := card.Due(l, 2)
	want(t, "many", got, slices.Concat(places[:]...), bad, api.OK)
	got, bad = card.Today(l, nil, 2, card.Bounds{All: 4000})
	want(t, "many", got, slices.Concat(places[:]...)[:4000], bad, api.OK)
}

func TestToday(t *testing.T) {
	review := func(block, day int) card.Review { return card.Review{Block: block, No: 1, Grade: card.Good, Day: day} }
	for _, c := range []struct {
		day   int
		done  []card.Review
		b     card.Bounds
		today []int
	}{
		{12, nil, card.Bounds{New: 9, All: 9}, []int{4, 2, 0, 8, 1, 3, 7}}, {12, nil, card.Bounds{New: 2, All: 9}, []int{4, 2, 0, 8, 1, 3}}, {12, nil, card.Bounds{New: 9, All: 5}, []int{4, 2, 0, 8, 1}},
		{12, nil, card.Bounds{New: 9, All: 4}, []int{4, 2, 0, 8}}, {12, nil, card.Bounds{New: 9, All: 2}, []int{4, 2}}, {12, nil, card.Bounds{New: 0, All: 9}, []int{4, 2, 0, 8}}, {12, nil, card.Bounds{}, nil},
		{12, nil, card.Bounds{New: 9, All: 0}, nil}, {12, nil, card.Bounds{New: card.MaxStates, All: card.MaxStates}, []int{4, 2, 0, 8, 1, 3, 7}},
		// Those that were never asked can be buried, too.
		{5, nil, card.Bounds{New: 9, All: 9}, []int{1, 7}}, {6, nil, card.Bounds{New: 9, All: 9}, []int{1, 3, 7}}, {15, nil, card.Bounds{New: 9, All: 9}, []int{4, 2, 0, 8, 1, 3, 7}},
		{16, nil, card.Bounds{New: 9, All: 10}, []int{5, 4, 2, 0, 8, 9, 1, 3, 6, 7}}, {16, nil, card.Bounds{New: 9, All: 9}, []int{5, 4, 2, 0, 8, 9, 1, 3, 6}}, {0, nil, card.Bounds{New: 9, All: 9}, []int{1, 7}},
		// What is done on the day counts, first reviews for New, too.
		{12, []card.Review{review(99, 12)}, card.Bounds{New: 2, All: 9}, []int{4, 2, 0, 8, 1}}, {12, []card.Review{review(99, 12)}, card.Bounds{New: 2, All: 5}, []int{4, 2, 0, 8}},
		{12, []card.Review{review(99, 12), review(99, 12)}, card.Bounds{New: 2, All: 9}, []int{4, 2, 0, 8, 1}}, {12, []card.Review{review(99, 12), review(98, 12)}, card.Bounds{New: 2, All: 9}, []int{4, 2, 0, 8}},
		{12, []card.Review{review(99, 12), {Block: 99, No: 2, Grade: 1, Day: 12}}, card.Bounds{New: 3, All: 9}, []int{4, 2, 0, 8, 1}}, {12, []card.Review{review(99, 12), {Block: 1, No: 99, Grade: 1, Day: 12}}, card.Bounds{New: 3, All: 9}, []int{4, 2, 0, 8, 1}},
		{12, []card.Review{review(99, 11)}, card.Bounds{New: 2, All: 6}, []int{4, 2, 0, 8, 1, 3}}, {12, []card.Review{review(99, 13)}, card.Bounds{New: 2, All: 6}, []int{4, 2, 0, 8, 1, 3}},
		{12, []card.Review{review(99, 11), review(99, 12)}, card.Bounds{New: 2, All: 6}, []int{4, 2, 0, 8, 1}}, {12, []card.Review{review(99, 12), review(99, 11)}, card.Bounds{New: 2, All: 7}, []int{4, 2, 0, 8, 1}},
		{12, []card.Review{review(99, 13), review(99, 12)}, card.Bounds{New: 2, All: 7}, []int{4, 2, 0, 8, 1, 3}}, // before it in the list, if not by day
		{12, []card.Review{{}, {Block: -7, Grade: 99, Day: 12}}, card.Bounds{New: 2, All: 9}, []int{4, 2, 0, 8, 1}}, {0, []card.Review{{}}, card.Bounds{New: 2, All: 9}, []int{1}},
		// A bound below 0 is 0.
		{12, []card.Review{review(99, 12), review(98, 12), review(97, 12)}, card.Bounds{New: 1, All: 9}, []int{4, 2, 0, 8}}, {12, []card.Review{review(99, 12), review(98, 12)}, card.Bounds{New: 0, All: 6}, []int{4, 2, 0, 8}},
		{12, []card.Review{review(99, 12), review(98, 12)}, card.Bounds{New: 5, All: 1}, nil}, {12, []card.Review{review(99, 12), review(98, 12)}, card.Bounds{}, nil}, {12, []card.Review{review(99, 12), review(98, 12)}, card.Bounds{New: 1, All: 5}, []int{4, 2, 0}},
	} {
		got, bad := card.Today(deck(), c.done, c.day, c.b)
		want(t, fmt.Sprint(c.day, c.done, c.b), got, c.today, bad, api.OK)
	}
}

func TestErrorsOfToday(t *testing.T) {
	for _, c := range []struct {
		day   int
		b     card.Bounds
		count int
		bad   api.Errno
	}{
		{0, card.Bounds{New: card.MaxStates, All: card.MaxStates}, card.MaxReviews, api.OK}, {api.MaxDay, card.Bounds{}, 0, api.OK}, {-1, card.Bounds{}, 0, api.ErrRange}, {api.MaxDay + 1, card.Bounds{}, 0, api.ErrRange},
		{math.MinInt, card.Bounds{}, 0, api.ErrRange}, {math.MaxInt, card.Bounds{}, 0, api.ErrRange}, {0, card.Bounds{New: -1}, 0, api.ErrRange}, {0, card.Bounds{All: -1}, 0, api.ErrRange},
		{0, card.Bounds{New: card.MaxStates + 1}, 0, api.ErrRange}, {0, card.Bounds{All: card.MaxStates + 1}, 0, api.ErrRange}, {0, card.Bounds{New: math.MinInt, All: math.MaxInt}, 0, api.ErrRange},
		{0, card.Bounds{}, card.MaxReviews + 1, api.ErrLarge}, {-1, card.Bounds{}, card.MaxReviews + 1, api.ErrRange}, {0, card.Bounds{New: -1}, card.MaxReviews + 1, api.ErrRange}, {0, card.Bounds{All: card.MaxStates + 1}, card.MaxReviews + 1, api.ErrRange},
	} {
		got, bad := card.Today(nil, reviewsOf(c.count), c.day, c.b)
		want(t, fmt.Sprint(c), got, nil, bad, c.bad)
	}
}

// P7.10

// A step is a grade of the state at a position on a day.
type step struct{ at, grade, day int }

func graded(l []card.State, steps ...step) []card.State {
	for _, s := range steps {
		l = must(card.GradeAt(l, s.at, s.grade, s.day))
	}
	return l
}

func TestSimulate(t *testing.T) {
	steps := []step{
		{4, card.Good, 12}, {2, card.Again, 12}, {0, card.Easy, 12}, {8, card.Good, 12}, // no room for a new one
		{2, card.Again, 13}, {1, card.Easy, 13}, // one new one
		{2, card.Good, 14}, {8, card.Again, 14}, {4, card.Easy, 14}, {3, card.Good, 14}, // three are due on this day, by Ease
		{8, card.Again, 15}, {7, card.Easy, 15}, // 5 and 6 are buried on this day
		{5, card.Good, 16}, {3, card.Again, 16}, {9, card.Easy, 16}, {2, card.Good, 16}, // 5 is late; 8 and 0 have more Ease
	}
	grades := []int{card.Good, card.Again, card.Easy}
	for days, end := range []int{0, 4, 6, 10, 12, 16} {
		got, counts, bad := card.Simulate(deck(), grades, 12, days, card.Bounds{New: 1, All: 4})
		want(t, fmt.Sprint(days), got, graded(deck(), steps[:end]...), bad, api.OK)
		want(t, fmt.Sprint(days), counts, []int{4, 2, 4, 2, 4}[:days], bad, api.OK)
	}
	got, counts, bad := card.Simulate(deck(), grades, 12, 3, card.Bounds{New: 0, All: 0})
	want(t, "All 0", got, deck(), bad, api.OK)
	want(t, "All 0", counts, []int{0, 0, 0}, bad, api.OK)
	got, counts, bad = card.Simulate(nil, grades, 12, 2, card.Bounds{New: 9, All: 9})
	want(t, "no states", got, nil, bad, api.OK)
	want(t, "no states", counts, []int{0, 0}, bad, api.OK)
	got, counts, bad = card.Simulate(deck(), grades, api.MaxDay-1, 1, card.Bounds{New: 0, All: 2})
	want(t, "the last day but one", got, graded(deck(), step{5, card.Good, api.MaxDay - 1}, step{4, card.Again, api.MaxDay - 1}), bad, api.OK)
	want(t, "the last day but one", counts, []int{2}, bad, api.OK)
}

// What follows: days and then days are all of the days, with the grades that come then;
// no day has more grades than All, nor more of new cards than New.
func TestWhatFollowsOfSimulate(t *testing.T) {
	var d dice
	for range rounds(t, 300) {
		l, b, grades := d.states(12), card.Bounds{New: d.next(6), All: d.next(12)}, d.grades()
		from, days, more := d.next(api.MaxDay-200), d.next(40), d.next(40)
		name := fmt.Sprint(l, grades, from, days, more, b)
		first, counts, bad := card.Simulate(l, grades, from, days, b)
		wantError(t, name, bad, api.OK)
		total := 0
		for _, count := range counts {
			total += count
		}
		turned := slices.Concat(grades[total%len(grades):], grades[:total%len(grades)])
		then, later, bad := card.Simulate(first, turned, from+days, more, b)
		wantError(t, name, bad, api.OK)
		whole, all, bad := card.Simulate(l, grades, from, days+more, b)
		want(t, name, whole, then, bad, api.OK)
		want(t, name, all, slices.Concat(counts, later), bad, api.OK)
		wantBounds(t, l, grades, from, b, all)
	}
}

// wantBounds goes through simulated days one by one.
func wantBounds(t *testing.T, l []card.State, grades []int, from int, b card.Bounds, counts []int) {
	unasked := must(card.Counts(l, from)).New
	for i, count := range counts {
		after, _, bad := card.Simulate(l, grades, from, i+1, b)
		wantError(t, "Simulate", bad, api.OK)
		left := must(card.Counts(after, from)).New
		if count > b.All || unasked-left > b.New {
			t.Fatal(l, from+i, count, unasked, left, b)
		}
		unasked = left
	}
}

func TestErrorsOfSimulate(t *testing.T) {
	all := card.Bounds{New: card.MaxStates, All: card.MaxStates}
	good := []int{card.Good}
	most := slices.Repeat(good, card.MaxReviews)
	for _, c := range []struct {
		grades     []int
		from, days int
		b          card.Bounds
		bad        api.Errno
	}{
		{nil, -1, -1, card.Bounds{}, api.ErrLarge}, {[]int{}, 0, 0, card.Bounds{}, api.ErrLarge}, {append(most, 0), -1, 0, all, api.ErrLarge}, {most, 0, 1, all, api.OK},
		{append(most[1:card.MaxReviews:card.MaxReviews], 5), 0, 0, all, api.ErrKind},
		{[]int{0}, -1, 0, all, api.ErrKind}, {[]int{1, 2, 3, 4, 5}, 0, 0, all, api.ErrKind}, {[]int{3, -1}, 0, 0, card.Bounds{New: -1}, api.ErrKind}, {[]int{math.MinInt}, 0, 0, all, api.ErrKind}, {[]int{math.MaxInt}, 0, 0, all, api.ErrKind},
		{good, -1, 0, all, api.ErrRange}, {good, api.MaxDay + 1, 0, all, api.ErrRange}, {good, math.MinInt, 0, all, api.ErrRange}, {good, math.MaxInt, 1, all, api.ErrRange},
		{good, 0, -1, all, api.ErrRange}, {good, 0, card.MaxYear + 1, all, api.ErrRange}, {good, 0, math.MinInt, all, api.ErrRange}, {good, 1, math.MaxInt, all, api.ErrRange}, {good, 0, card.MaxYear, all, api.OK},
		{good, api.MaxDay, 1, all, api.ErrRange}, {good, api.MaxDay - 5, 6, all, api.ErrRange}, {good, api.MaxDay - 5, 5, all, api.OK}, {good, api.MaxDay, 0, all, api.OK},
		{good, 0, 0, card.Bounds{New: -1}, api.ErrRange}, {good, 0, 0, card.Bounds{All: -1}, api.ErrRange}, {good, 0, 0, card.Bounds{New: card.MaxStates + 1}, api.ErrRange}, {good, 0, 0, card.Bounds{All: card.MaxStates + 1}, api.ErrRange},
	} {
		l, counts, bad := card.Simulate(many(3), c.grades, c.from, c.days, c.b)
		name := fmt.Sprint(len(c.grades), c.from, c.days, c.b)
		wantError(t, name, bad, c.bad)
		if bad != api.OK {
			want(t, name, l, nil, 0, 0)
			want(t, name, counts, nil, 0, 0)
		} else {
			want(t, name, len(counts), c.days, 0, 0)
		}
	}
}

// ErrFull comes where more than MaxReviews grades would be given, and not before.
func TestFullSimulations(t *testing.T) {
	again := []int{card.Again}
	for _, c := range []struct {
		cards, days, all int
		bad              api.Errno
	}{
		{card.MaxStates, 4, card.MaxStates, api.OK}, {card.MaxStates, 5, card.MaxStates, api.ErrFull}, {card.MaxStates, 5, 4000, api.OK}, {card.MaxStates, 5, 4001, api.ErrFull},
		{20, 1000, 99, api.OK}, {20, 1001, 99, api.ErrFull}, {21, 1000, 20, api.OK}, {21, 1000, 21, api.ErrFull}, {card.MaxStates, card.MaxYear, 0, api.OK},
	} {
		l, counts, bad := card.Simulate(many(c.cards), again, 7, c.days, card.Bounds{New: card.MaxStates, All: c.all})
		name := fmt.Sprint(c)
		wantError(t, name, bad, c.bad)
		if bad != api.OK {
			want(t, name, l, nil, 0, 0)
			want(t, name, counts, nil, 0, 0)
			continue
		}
		want(t, name, len(l), c.cards, 0, 0)
		want(t, name, counts, slices.Repeat([]int{min(c.cards, c.all)}, c.days), 0, 0)
	}
}
