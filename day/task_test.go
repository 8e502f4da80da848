package day_test

import (
	"fmt"
	"math"
	"strings"
	"testing"

	"florilegium/api"
	"florilegium/day"
	"florilegium/prop"
)

// chores is a base with tasks; some are almost ones.
func chores() []api.Block {
	return base(
		`9 page ; task:: "todo"`,
		`  2 all ; due:: 2024-03-06 ; last:: 2024-03-01 ; other:: 1 ; repeat:: "every 2 days from 2024-03-06 times 3" ; task:: "doing"`,
		`    7 done ; due:: 2024-03-06 ; repeat:: "every 1 day from 2024-03-06" ; task:: "done"`,
		`    8 dropped ; last:: 2001-01-01 ; task:: "dropped"`,
		`  3 no task ; due:: 2024-03-06 ; repeat:: "every 1 day from 2024-03-06"`,
		`  4 of other kinds ; due:: "2024-03-06" ; last:: 8465 ; repeat:: [[every 1 day from 2024-03-06]] ; task:: "todo"`,
		`  5 wrong rule ; due:: 2024-03-06..2024-03-06 ; last:: [2024-03-06] ; repeat:: "every 1 day" ; task:: "todo"`,
		`  6 not due ; repeat:: "every 1 day from 2024-03-06" ; task:: "todo"`,
		`10 other states ; task:: "Todo"`, `11 other states ; task:: "todo "`, `12 other states ; task:: ""`, `13 other states ; task:: "open"`,
		`14 other kinds ; task:: [["todo"]]`, `15 other kinds ; task:: ["todo"]`, `16 other kinds ; task:: 1`, `17 other kinds ; task:: yes`, `18 other kinds ; task:: [[todo]]`,
		`19 other names ; state:: "todo"`,
		`20 once ; due:: 2024-03-05 ; task:: "todo"`,
		`21 wrong rule ; due:: 2024-03-05 ; repeat:: "every 0 days from 2024-03-06" ; task:: "todo"`,
		`22 over ; due:: 2024-03-08 ; repeat:: "every 1 day from 2024-03-06 until 2024-03-08" ; task:: "todo"`,
		`23 early ; due:: 2024-03-01 ; repeat:: "every 1 week from 2024-03-06 on mon" ; task:: "doing"`,
	)
}

// P6.6

func TestTasks(t *testing.T) {
	daily := rule("1 day")
	got, bad := day.Tasks(chores())
	want(t, "Tasks", got, []day.Task{
		{Block: 2, State: day.Doing, Due: march, Last: 8460, Repeats: true, Rule: rule("2 days", "times 3")},
		{Block: 4, State: day.Todo, Due: -1, Last: -1},
		{Block: 5, State: day.Todo, Due: -1, Last: -1},
		{Block: 6, State: day.Todo, Due: -1, Last: -1, Repeats: true, Rule: daily},
		{Block: 7, State: day.Done, Due: march, Last: -1, Repeats: true, Rule: daily},
		{Block: 8, State: day.Dropped, Due: -1, Last: 0},
		{Block: 9, State: day.Todo, Due: -1, Last: -1},
		{Block: 20, State: day.Todo, Due: march - 1, Last: -1},
		{Block: 21, State: day.Todo, Due: march - 1, Last: -1},
		{Block: 22, State: day.Todo, Due: march + 2, Last: -1, Repeats: true, Rule: rule("1 day", "until 2024-03-08")},
		{Block: 23, State: day.Doing, Due: 8460, Last: -1, Repeats: true, Rule: rule("1 week", "on mon")},
	}, bad, api.OK)
	got, bad = day.Tasks([]api.Block{{}})
	want(t, "Tasks of an empty base", got, nil, bad, api.OK)
}

// changes calls each function that changes a task, Do with a day.
func changes(l []api.Block, id, at int) map[string]func() ([]api.Prop, api.Errno) {
	return map[string]func() ([]api.Prop, api.Errno){
		"Start":  func() ([]api.Prop, api.Errno) { return day.Start(l, id) },
		"Do":     func() ([]api.Prop, api.Errno) { return day.Do(l, id, at) },
		"Skip":   func() ([]api.Prop, api.Errno) { return day.Skip(l, id) },
		"Reopen": func() ([]api.Prop, api.Errno) { return day.Reopen(l, id) },
	}
}

func TestChangesOfTasks(t *testing.T) {
	for _, c := range []struct {
		name  string
		id    int
		props string
	}{
		{"Start", 2, `due:: 2024-03-06 ; last:: 2024-03-01 ; other:: 1 ; repeat:: "every 2 days from 2024-03-06 times 3" ; task:: "doing"`},
		{"Start", 9, `task:: "doing"`},
		{"Start", 6, `repeat:: "every 1 day from 2024-03-06" ; task:: "doing"`},
		{"Do", 2, `due:: 2024-03-08 ; last:: 2024-04-01 ; other:: 1 ; repeat:: "every 2 days from 2024-03-06 times 3" ; task:: "todo"`},
		{"Do", 4, `due:: "2024-03-06" ; last:: 2024-04-01 ; repeat:: [[every 1 day from 2024-03-06]] ; task:: "done"`},
		{"Do", 5, `due:: 2024-03-06..2024-03-06 ; last:: 2024-04-01 ; repeat:: "every 1 day" ; task:: "done"`},
		{"Do", 6, `last:: 2024-04-01 ; repeat:: "every 1 day from 2024-03-06" ; task:: "done"`},
		{"Do", 9, `last:: 2024-04-01 ; task:: "done"`},
		{"Do", 20, `due:: 2024-03-05 ; last:: 2024-04-01 ; task:: "done"`},
		{"Do", 21, `due:: 2024-03-05 ; last:: 2024-04-01 ; repeat:: "every 0 days from 2024-03-06" ; task:: "done"`},
		{"Do", 22, `due:: 2024-03-08 ; last:: 2024-04-01 ; repeat:: "every 1 day from 2024-03-06 until 2024-03-08" ; task:: "done"`},
		{"Do", 23, `due:: 2024-03-11 ; last:: 2024-04-01 ; repeat:: "every 1 week from 2024-03-06 on mon" ; task:: "todo"`},
		{"Skip", 2, `due:: 2024-03-08 ; last:: 2024-03-01 ; other:: 1 ; repeat:: "every 2 days from 2024-03-06 times 3" ; task:: "todo"`},
		{"Skip", 4, `due:: "2024-03-06" ; last:: 8465 ; repeat:: [[every 1 day from 2024-03-06]] ; task:: "dropped"`},
		{"Skip", 6, `repeat:: "every 1 day from 2024-03-06" ; task:: "dropped"`},
		{"Skip", 9, `task:: "dropped"`},
		{"Skip", 20, `due:: 2024-03-05 ; task:: "dropped"`},
		{"Skip", 22, `due:: 2024-03-08 ; repeat:: "every 1 day from 2024-03-06 until 2024-03-08" ; task:: "dropped"`},
		{"Skip", 23, `due:: 2024-03-11 ; repeat:: "every 1 week from 2024-03-06 on mon" ; task:: "todo"`},
		{"Reopen", 7, `due:: 2024-03-06 ; repeat:: "every 1 day from 2024-03-06" ; task:: "todo"`},
		{"Reopen", 8, `last:: 2001-01-01 ; task:: "todo"`},
	} {
		l := chores()
		got, bad := changes(l, c.id, dayOf("2024-04-01"))[c.name]()
		want(t, fmt.Sprint(c.name, c.id), got, props(strings.Split(c.props, " ; ")...), bad, api.OK)
		want(t, "the base itself", l, chores(), 0, 0)
	}
}

func TestErrorsOfTasks(t *testing.T) {
	tooLate := api.MaxDay + 1
	for _, c := range []struct {
		id, day                 int
		start, do, skip, reopen api.Errno
	}{
		{1, tooLate, api.ErrNone, api.ErrNone, api.ErrNone, api.ErrNone},
		{-1, tooLate, api.ErrNone, api.ErrNone, api.ErrNone, api.ErrNone},
		{math.MaxInt, tooLate, api.ErrNone, api.ErrNone, api.ErrNone, api.ErrNone},
		{0, tooLate, api.ErrState, api.ErrState, api.ErrState, api.ErrState},
		{3, tooLate, api.ErrState, api.ErrState, api.ErrState, api.ErrState},
		{10, tooLate, api.ErrState, api.ErrState, api.ErrState, api.ErrState},
		{18, tooLate, api.ErrState, api.ErrState, api.ErrState, api.ErrState},
		{7, tooLate, api.ErrState, api.ErrState, api.ErrState, api.OK},
		{8, 0, api.ErrState, api.ErrState, api.ErrState, api.OK},
		{2, tooLate, api.OK, api.ErrRange, api.OK, api.ErrState},
		{2, -1, api.OK, api.ErrRange, api.OK, api.ErrState},
		{9, math.MinInt, api.OK, api.ErrRange, api.OK, api.ErrState},
		{9, math.MaxInt, api.OK, api.ErrRange, api.OK, api.ErrState},
		{9, 0, api.OK, api.OK, api.OK, api.ErrState},
		{9, api.MaxDay, api.OK, api.OK, api.OK, api.ErrState},
	} {
		all := changes(chores(), c.id, c.day)
		for name, wanted := range map[string]api.Errno{"Start": c.start, "Do": c.do, "Skip": c.skip, "Reopen": c.reopen} {
			wantError(t, fmt.Sprint(name, c.id, c.day), second(all[name]()), wanted)
		}
	}
}

// A list that is full has no room for `last`, but for what is there already.
func TestFullProperties(t *testing.T) {
	full := func(lines ...string) []api.Block {
		for i := range api.MaxProps - len(lines) {
			lines = append([]string{fmt.Sprintf("a%02d:: 1", api.MaxProps-i)}, lines...)
		}
		return set(base("1 page"), 1, props(lines...))
	}
	repeat := `repeat:: "every 1 day from 2024-03-06"`
	for _, c := range []struct {
		base     []api.Block
		at       int
		do, skip api.Errno
	}{
		{full(`task:: "todo"`), 0, api.ErrLarge, api.OK},
		{full(`task:: "todo"`), -1, api.ErrRange, api.OK},
		{full(`task:: "done"`), 0, api.ErrState, api.ErrState},
		{full("due:: 2024-03-06", repeat, `task:: "todo"`), 0, api.ErrLarge, api.OK},
		{full("due:: 2024-03-06", "last:: 1", repeat, `task:: "todo"`), 0, api.OK, api.OK},
		{full("last:: 2024-03-06", `task:: "todo"`), 0, api.OK, api.OK},
	} {
		all := changes(c.base, 1, c.at)
		name := fmt.Sprint(c.base)
		wantError(t, "Do "+name, second(all["Do"]()), c.do)
		wantError(t, "Skip "+name, second(all["Skip"]()), c.skip)
	}
}

// What follows: a task that repeats was due on just the days on which its rule occurs.
func TestTasksAreDoneOnAndOn(t *testing.T) {
	for _, every := range []string{
		"every 2 weeks from 2024-03-06 times 9 on wed fri skip 2024-03-20 2024-04-03",
		"every 1 month from 2024-01-31 until 2025-06-30",
		"every 5 years from 2024-02-29",
		"every 1 day from 2024-03-06 times 40 skip 2024-03-07 2024-04-14",
	} {
		r := must(day.ReadRule(every))
		for _, due := range firstDays(r, 3) {
			var was []int
			l := base(`3 page ; due:: ` + must(prop.DateText(due)) + ` ; repeat:: "` + every + `" ; task:: "todo"`)
			for len(was) < 100 {
				task := must(day.Tasks(l))[0]
				if task.State != day.Todo {
					want(t, every, task.State, day.Done, 0, 0)
					break
				}
				was = append(was, task.Due)
				l = set(l, 3, must(day.Do(l, 3, march+len(was))))
			}
			var wanted []int
			for _, at := range firstDays(r, 100) {
				if at >= due {
					wanted = append(wanted, at)
				}
			}
			want(t, every, was, wanted, 0, 0)
		}
	}
}
