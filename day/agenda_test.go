package day_test

import (
	"fmt"
	"math"
	"testing"

	"florilegium/api"
	"florilegium/day"
)

// P6.7

func TestAgenda(t *testing.T) {
	// Blocks 2 (every 2 days from 8465 on, 3 times), 20 and 21 (8464), 22 (every day up to 8467), 23 (8460; 8470, 8477 ..).
	for _, c := range []struct {
		from, to int
		entries  []day.Entry
	}{
		{8460, 8464, []day.Entry{{8460, 23, false}, {8464, 20, false}, {8464, 21, false}}},
		{8461, 8465, []day.Entry{{8461, 23, true}, {8464, 20, false}, {8464, 21, false}, {8465, 2, false}}},
		{8465, 8465, []day.Entry{{8465, 20, true}, {8465, 21, true}, {8465, 23, true}, {8465, 2, false}}},
		{8467, 8470, []day.Entry{{8467, 2, true}, {8467, 20, true}, {8467, 21, true}, {8467, 23, true}, {8467, 2, false}, {8467, 22, false}, {8469, 2, false}, {8470, 23, false}}},
		{8468, 8468, []day.Entry{{8468, 2, true}, {8468, 20, true}, {8468, 21, true}, {8468, 22, true}, {8468, 23, true}}},
		{8470, 8477, []day.Entry{{8470, 2, true}, {8470, 20, true}, {8470, 21, true}, {8470, 22, true}, {8470, 23, true}, {8470, 23, false}, {8477, 23, false}}},
		{0, 4000, nil},
		{8459, 8459, nil},
	} {
		got, bad := day.Agenda(chores(), c.from, c.to)
		want(t, fmt.Sprint(c.from, c.to), got, c.entries, bad, api.OK)
	}
	// A rule that begins, or has days, before the due day; and one of a task that is due on none of them.
	l := base(`1 a ; due:: 2024-03-08 ; repeat:: "every 1 day from 2024-03-06 until 2024-03-10" ; task:: "todo"`, `2 b ; due:: 2024-03-06 ; repeat:: "every 1 day from 2024-03-08 until 2024-03-08" ; task:: "todo"`)
	got, bad := day.Agenda(l, 8460, 8480)
	want(t, "due days", got, []day.Entry{{8465, 2, false}, {8467, 1, false}, {8467, 2, false}, {8468, 1, false}, {8469, 1, false}}, bad, api.OK)
	l = base(`1 a ; due:: 2274-10-17 ; repeat:: "every 1 day from 2024-03-06" ; task:: "todo"`, `2 b ; due:: 2001-01-01 ; repeat:: "every 1 day from 2001-01-01 times 2" ; task:: "doing"`)
	got, bad = day.Agenda(l, api.MaxDay-4000, api.MaxDay)
	want(t, "last day", got, []day.Entry{{api.MaxDay - 4000, 2, true}, {api.MaxDay, 1, false}}, bad, api.OK)
	got, bad = day.Agenda(l, 0, 5)
	want(t, "first day", got, []day.Entry{{0, 2, false}, {1, 2, false}}, bad, api.OK)
}

func TestLate(t *testing.T) {
	for _, c := range []struct {
		day    int
		blocks []int
	}{
		{0, nil}, {8460, nil}, {8461, []int{23}}, {8464, []int{23}}, {8465, []int{23, 20, 21}}, {8466, []int{23, 20, 21, 2}}, {8467, []int{23, 20, 21, 2}}, {8468, []int{23, 20, 21, 2, 22}}, {api.MaxDay, []int{23, 20, 21, 2, 22}},
	} {
		got, bad := day.Late(chores(), c.day)
		want(t, fmt.Sprint(c.day), got, c.blocks, bad, api.OK)
	}
}

func TestErrorsOfAgendaAndLate(t *testing.T) {
	for _, c := range []struct {
		from, to int
		bad      api.Errno
	}{
		{0, 4000, api.OK}, {0, 4001, api.ErrRange}, {-1, 0, api.ErrRange}, {-1, -2, api.ErrRange}, {0, api.MaxDay + 1, api.ErrRange}, {api.MaxDay + 1, 0, api.ErrRange}, {0, -1, api.ErrRange},
		{math.MinInt, math.MaxInt, api.ErrRange}, {math.MaxInt, math.MinInt, api.ErrRange}, {5, 4, api.ErrOrder}, {api.MaxDay, 0, api.ErrOrder}, {api.MaxDay, api.MaxDay, api.OK},
	} {
		wantError(t, fmt.Sprint("Agenda ", c.from, c.to), second(day.Agenda(chores(), c.from, c.to)), c.bad)
	}
	for _, at := range []int{-1, api.MaxDay + 1, math.MinInt, math.MaxInt} {
		wantError(t, fmt.Sprint("Late ", at), second(day.Late(chores(), at)), api.ErrRange)
	}
}

// All functions with a base look at it first.
func TestWrongBasesComeFirst(t *testing.T) {
	for bad, l := range wrongBases() {
		for name, got := range map[string]api.Errno{
			"Tasks": second(day.Tasks(l)), "Start": second(day.Start(l, -1)), "Do": second(day.Do(l, -1, -1)), "Skip": second(day.Skip(l, -1)), "Reopen": second(day.Reopen(l, -1)),
			"Agenda": second(day.Agenda(l, 5, 4)), "Agenda of wrong days": second(day.Agenda(l, -1, 4)), "Late": second(day.Late(l, -1)), "Daily": second(day.Daily(l, -1)), "Dailies": second(day.Dailies(l)),
		} {
			wantError(t, name, got, bad)
		}
	}
}
