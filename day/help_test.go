package day_test

import (
	"fmt"
	"reflect"
	"slices"
	"strconv"
	"strings"
	"testing"

	"florilegium/api"
	"florilegium/day"
	"florilegium/prop"
	"florilegium/tree"
)

// march is 2024-03-06, a Wednesday.
const march = 8465

// plain gives what a result is with each empty list as nil, as new memory.
func plain[T any](result T) T {
	v := reflect.New(reflect.TypeFor[T]()).Elem()
	v.Set(plainValue(reflect.ValueOf(&result).Elem()))
	return v.Interface().(T)
}

func plainValue(v reflect.Value) reflect.Value {
	copied := reflect.New(v.Type()).Elem()
	switch v.Kind() {
	case reflect.Slice:
		for i := range v.Len() {
			copied.Set(reflect.Append(copied, plainValue(v.Index(i))))
		}
	case reflect.Struct:
		for i := range v.NumField() {
			copied.Field(i).Set(plainValue(v.Field(i)))
		}
	default:
		copied.Set(v)
	}
	return copied
}

// want tells where a result is another one than wanted. Empty and nil lists are the same.
func want[T any](t *testing.T, name string, got, wanted T, bad, wantedBad api.Errno) {
	t.Helper()
	if bad != wantedBad {
		t.Errorf("%.300s: error %d, want %d", name, bad, wantedBad)
	} else if !reflect.DeepEqual(plain(got), plain(wanted)) {
		t.Errorf("%.300s = %.900s, want %.900s", name, fmt.Sprint(got), fmt.Sprint(wanted))
	}
}

// wantError tells where an error is another one than wanted.
func wantError(t *testing.T, name string, bad, wanted api.Errno) {
	t.Helper()
	want(t, name, 0, 0, bad, wanted)
}

// must gives a result of which the test knows that it has no error.
func must[T any](result T, bad api.Errno) T {
	if bad != api.OK {
		panic(bad)
	}
	return result
}

// second gives the error of two results.
func second[T any](_ T, bad api.Errno) api.Errno {
	return bad
}

// dayOf gives the day of a string.
func dayOf(s string) int {
	return must(prop.ReadDate(s))
}

// daysOf gives the days of some words.
func daysOf(s string) []int {
	var days []int
	for _, word := range strings.Fields(s) {
		days = append(days, dayOf(word))
	}
	return days
}

// rule gives the rule of a string, from 2024-03-06 on.
func rule(every string, rest ...string) day.Rule {
	return must(day.ReadRule("every " + every + " from 2024-03-06" + strings.Join(append([]string{""}, rest...), " ")))
}

// changed gives a rule with a change.
func changed(r day.Rule, change func(r *day.Rule)) day.Rule {
	r = plain(r)
	change(&r)
	return r
}

// rising gives so many numbers, from one on.
func rising(from, count int) []int {
	var l []int
	for i := range count {
		l = append(l, from+i)
	}
	return l
}

// base gives the base that its lines show: two spaces for each depth below
// that of a page, the id, a space and the text; then, each after ` ; `, properties
// as prop.PropsText writes them.
func base(lines ...string) []api.Block {
	l := []api.Block{{}}
	at := map[int]int{0: 0}
	way := []int{0}
	for _, line := range lines {
		rest := strings.TrimLeft(line, " ")
		depth := (len(line) - len(rest)) / 2
		parts := strings.Split(rest, " ; ")
		digits, text, _ := strings.Cut(parts[0], " ")
		id, _ := strconv.Atoi(digits)
		b := api.Block{Id: id, Parent: way[depth], Text: text, Props: props(parts[1:]...)}
		at[id] = len(l)
		l = append(l, b)
		l[at[b.Parent]].Kids = append(l[at[b.Parent]].Kids, id)
		way = append(way[:depth+1], id)
	}
	slices.SortFunc(l, func(a, b api.Block) int { return a.Id - b.Id })
	if bad := tree.Check(l); bad != api.OK {
		panic(strings.Join(lines, "\n"))
	}
	return l
}

func props(lines ...string) []api.Prop {
	var all strings.Builder
	for _, line := range lines {
		all.WriteString(line + "\n")
	}
	l, _, bad := prop.ReadProps(all.String())
	return must(l, bad)
}

// wrongBases are bases that may not be, with their errors.
func wrongBases() map[api.Errno][]api.Block {
	return map[api.Errno][]api.Block{
		api.ErrForm: nil, api.ErrRange: {{Id: 1}}, api.ErrByte: {{Kids: []int{1}}, {Id: 1, Text: "\n"}}, api.ErrNone: {{Kids: []int{1}}},
		api.ErrOrder: {{Kids: []int{1, 2}}, {Id: 2}, {Id: 1}}, api.ErrLoop: {{}, {Id: 1}}, api.ErrLarge: make([]api.Block, api.MaxBlocks+1),
	}
}

// set gives a base with other properties of a block.
func set(l []api.Block, id int, props []api.Prop) []api.Block {
	l = plain(l)
	for i := range l {
		if l[i].Id == id {
			l[i].Props = props
		}
	}
	return l
}
