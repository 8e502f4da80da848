package day

import (
	"cmp"
	"slices"

	"florilegium/api"
)

// Agenda gives what is to be done on some days.
func Agenda(base []api.Block, from, to int) ([]Entry, api.Errno) {
	tasks, bad := dueTasks(base)
	if bad != api.OK {
		return nil, bad
	}
	if bad := checkSpan(from, to); bad != api.OK {
		return nil, bad
	}
	var entries []Entry
	days := make([][]int, to-from+1) // the blocks of each day that are not late
	for _, task := range tasks {
		if task.Due < from {
			entries = append(entries, Entry{Day: from, Block: task.Block, Late: true})
		}
		for _, day := range daysOf(task, from, to) {
			days[day-from] = append(days[day-from], task.Block)
		}
	}
	for i, blocks := range days {
		for _, block := range blocks {
			entries = append(entries, Entry{Day: from + i, Block: block})
		}
	}
	return entries, api.OK
}

// dueTasks gives the open tasks with a due day, by block.
func dueTasks(base []api.Block) ([]Task, api.Errno) {
	tasks, bad := Tasks(base)
	if bad != api.OK {
		return nil, bad
	}
	return slices.DeleteFunc(tasks, func(task Task) bool { return !task.isOpen() || task.Due == noDay }), api.OK
}

// daysOf gives the days from one day to another one on which an open task is to be done.
func daysOf(task Task, from, to int) []int {
	var days []int
	if from <= task.Due && task.Due <= to {
		days = append(days, task.Due)
	}
	if task.Repeats {
		days = append(days, between(task.Rule, max(from, task.Due+1), to)...)
	}
	return days
}

// Late gives the blocks of open tasks that were due before a day.
func Late(base []api.Block, day int) ([]int, api.Errno) {
	tasks, bad := dueTasks(base)
	if bad != api.OK {
		return nil, bad
	}
	if !isDay(day) {
		return nil, api.ErrRange
	}
	slices.SortStableFunc(tasks, func(a, b Task) int { return cmp.Compare(a.Due, b.Due) })
	var blocks []int
	for _, task := range tasks {
		if task.Due < day {
			blocks = append(blocks, task.Block)
		}
	}
	return blocks, api.OK
}
