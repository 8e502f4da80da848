package ask_test

import (
	"fmt"
	"reflect"
	"slices"
	"strconv"
	"strings"
	"testing"

	"florilegium/api"
	"florilegium/ask"
	"florilegium/prop"
	"florilegium/tree"
)

// Values and conditions in short.

func num(n int) api.Value           { return api.Value{Kind: api.Number, Int: n} }
func str(s string) api.Value        { return api.Value{Kind: api.String, Text: s} }
func list(l ...api.Value) api.Value { return api.Value{Kind: api.List, Items: l} }

func kids(op int, l ...ask.Cond) ask.Cond { return ask.Cond{Op: op, Kids: l} }
func words(op int, s string) ask.Cond     { return ask.Cond{Op: op, Text: s} }
func number(op, n int) ask.Cond           { return ask.Cond{Op: op, Num: n} }
func has(name string) ask.Cond            { return ask.Cond{Op: ask.Has, Name: name} }
func page() ask.Cond                      { return ask.Cond{Op: ask.IsPage} }
func within(op, depth int, c ask.Cond) ask.Cond {
	for range depth {
		c = kids(op, c)
	}
	return c
}
func value(op int, name string, v api.Value) ask.Cond {
	return ask.Cond{Op: op, Name: name, Value: v}
}

// cond gives the condition of a string.
func cond(s string) ask.Cond { return must(ask.ReadCond(s)) }

// question gives the question of some lines.
func question(lines ...string) ask.Question {
	return must(ask.ReadQuestion(strings.Join(lines, "\n") + "\n"))
}

// base gives the base that its lines show: two spaces for each depth below
// that of a page, the id, a space and the text; then, each after ` ; `, properties
// as prop.PropsText writes them.
func base(lines ...string) []api.Block {
	l := []api.Block{{}}
	at := map[int]int{0: 0}
	way := []int{0}
	for _, line := range lines {
		rest := strings.TrimLeft(line, " ")
		depth := (len(line) - len(rest)) / 2
		parts := strings.Split(rest, " ; ")
		digits, text, _ := strings.Cut(parts[0], " ")
		id, _ := strconv.Atoi(digits)
		b := api.Block{Id: id, Parent: way[depth], Text: text, Props: props(parts[1:]...)}
		at[id] = len(l)
		l = append(l, b)
		l[at[b.Parent]].Kids = append(l[at[b.Parent]].Kids, id)
		way = append(way[:depth+1], id)
	}
	slices.SortFunc(l, func(a, b api.Block) int { return a.Id - b.Id })
	if bad := tree.Check(l); bad != api.OK {
		panic(strings.Join(lines, "\n"))
	}
	return l
}

func props(lines ...string) []api.Prop {
	var all strings.Builder
	for _, line := range lines {
		all.WriteString(line + "\n")
	}
	l, _, bad := prop.ReadProps(all.String())
	return must(l, bad)
}

// example is the base of the chapter's example.
func example() []api.Block {
	return base("1 A", "  2 b #x/y ; n:: 2", "  3 c [[A]] ; n:: 1")
}

// plain gives what a result is with each empty list as nil, as new memory.
func plain[T any](result T) T {
	v := reflect.New(reflect.TypeFor[T]()).Elem()
	v.Set(plainValue(reflect.ValueOf(&result).Elem()))
	return v.Interface().(T)
}

func plainValue(v reflect.Value) reflect.Value {
	copied := reflect.New(v.Type()).Elem()
	switch v.Kind() {
	case reflect.Slice:
		for i := range v.Len() {
			copied.Set(reflect.Append(copied, plainValue(v.Index(i))))
		}
	case reflect.Struct:
		for i := range v.NumField() {
			copied.Field(i).Set(plainValue(v.Field(i)))
		}
	default:
		copied.Set(v)
	}
	return copied
}

// want tells where a result is another one than wanted. Empty and nil lists are the same.
func want[T any](t *testing.T, name string, got, wanted T, bad, wantedBad api.Errno) {
	t.Helper()
	if bad != wantedBad {
		t.Errorf("%.300s: error %d, want %d", name, bad, wantedBad)
	} else if !reflect.DeepEqual(plain(got), plain(wanted)) {
		t.Errorf("%.300s = %.900s, want %.900s", name, fmt.Sprint(got), fmt.Sprint(wanted))
	}
}

// wantError tells where an error is another one than wanted.
func wantError(t *testing.T, name string, bad, wanted api.Errno) {
	t.Helper()
	want(t, name, 0, 0, bad, wanted)
}

// must gives a result of which the test knows that it has no error.
func must[T any](result T, bad api.Errno) T {
	if bad != api.OK {
		panic(bad)
	}
	return result
}

// group gives a group of some ids.
func group(v api.Value, ids ...int) ask.Group { return ask.Group{Value: v, Ids: ids} }
