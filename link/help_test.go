package link_test

import (
	"fmt"
	"reflect"
	"slices"
	"strconv"
	"strings"
	"testing"

	"florilegium/api"
	"florilegium/prop"
	"florilegium/tree"
)

// base gives the base that its lines show: two spaces for each depth below
// that of a page, the id, a space and the text; then, each after ` ; `, properties
// as prop.PropsText writes them.
func base(lines ...string) []api.Block {
	l := []api.Block{{}}
	at := map[int]int{0: 0}
	way := []int{0}
	for _, line := range lines {
		rest := strings.TrimLeft(line, " ")
		depth := (len(line) - len(rest)) / 2
		parts := strings.Split(rest, " ; ")
		digits, text, _ := strings.Cut(parts[0], " ")
		id, _ := strconv.Atoi(digits)
		b := api.Block{Id: id, Parent: way[depth], Text: text, Props: props(parts[1:]...)}
		at[id] = len(l)
		l = append(l, b)
		l[at[b.Parent]].Kids = append(l[at[b.Parent]].Kids, id)
		way = append(way[:depth+1], id)
	}
	slices.SortFunc(l, func(a, b api.Block) int { return a.Id - b.Id })
	if bad := tree.Check(l); bad != api.OK {
		panic(strings.Join(lines, "\n"))
	}
	return l
}

func props(lines ...string) []api.Prop {
	var all strings.Builder
	for _, line := range lines {
		all.WriteString(line + "\n")
	}
	l, _, bad := prop.ReadProps(all.String())
	return must(l, bad)
}

// example is the base of the chapter's example.
func example() []api.Block {
	return base("1 Cats", "  2 see [[dogs]], a dog's life", "3 Dogs ; alias:: \"dog\"")
}

// zoo is a base whose ids are not in its order, with names that several pages have, and marks in a title.
func zoo() []api.Block {
	return base(
		"9 Dogs ; alias:: [\"hound\", \"A  Dog\", [[Cats]], \"HOUND\", 5, \"dogs\"]",
		"  4 [[a dog|x]] and ((7)), #pet/dog #pet/dog",
		"    12 [[Cats]] [[cats]] ((99)) ((98)) ((99)) ; see:: [\"Owls\", [[nobody]], [[hound]]] ; the:: [[OWLS]]",
		"2 Cats ; alias:: \"tom\"",
		"  7 a hound, `[[Dogs]]`, ((4)) ((7)) #pet/cat ; alias:: [[nowhere]]",
		"5 Owls",
		"6 [[Dogs]] #pet ((4)) ((97)) ; up:: [[Tom]]",
		"3 owls ; alias:: \"Tom\"",
		"  8 [[ dogs]] [[Birds|of]] #animal ((4)) ; alias:: \"bird\"",
	)
}

// with gives a base in which a block has another text.
func with(l []api.Block, id int, text string) []api.Block {
	l = plain(l)
	at := slices.IndexFunc(l, func(b api.Block) bool { return b.Id == id })
	l[at].Text = text
	return l
}

// plain gives what a result is with each empty list as nil, as new memory.
func plain[T any](result T) T {
	v := reflect.New(reflect.TypeFor[T]()).Elem()
	v.Set(plainValue(reflect.ValueOf(&result).Elem()))
	return v.Interface().(T)
}

func plainValue(v reflect.Value) reflect.Value {
	copied := reflect.New(v.Type()).Elem()
	switch v.Kind() {
	case reflect.Slice:
		for i := range v.Len() {
			copied.Set(reflect.Append(copied, plainValue(v.Index(i))))
		}
	case reflect.Struct:
		for i := range v.NumField() {
			copied.Field(i).Set(plainValue(v.Field(i)))
		}
	default:
		copied.Set(v)
	}
	return copied
}

// want tells where a result is another one than wanted. Empty and nil lists are the same.
func want[T any](t *testing.T, name string, got, wanted T, bad, wantedBad api.Errno) {
	t.Helper()
	if bad != wantedBad {
		t.Errorf("%s: error %d, want %d", name, bad, wantedBad)
	} else if !reflect.DeepEqual(plain(got), plain(wanted)) {
		t.Errorf("%s = %.900s, want %.900s", name, fmt.Sprint(got), fmt.Sprint(wanted))
	}
}

// must gives a result of which the test knows that it has no error.
func must[T any](result T, bad api.Errno) T {
	if bad != api.OK {
		panic(bad)
	}
	return result
}

// crowd is a base of MaxBlocks blocks, whose texts and properties are full of links to the
// first three of 498 pages: those of all but the first one lead to that one, but for one.
func crowd() []api.Block {
	l := []api.Block{{}}
	add := func(id, parent int, text string, props []api.Prop) {
		l = append(l, api.Block{Id: id, Parent: parent, Text: text, Props: props})
	}
	full := func(title string) []api.Prop {
		var l []api.Prop
		for i := range api.MaxProps {
			items := slices.Repeat([]api.Value{{Kind: api.Link, Text: title}}, api.MaxItems)
			l = append(l, api.Prop{Name: "l" + strconv.Itoa(10+i), Value: api.Value{Kind: api.List, Items: items}})
		}
		return l
	}
	toFirst, toSecond := full("a"), full("b")
	for page := 1; page <= 498; page++ {
		titles := []string{"a", "b", "c"}
		title := "p" + strconv.Itoa(page)
		if page <= len(titles) {
			title = titles[page-1]
		}
		l[0].Kids = append(l[0].Kids, page)
		add(page, 0, title, nil)
	}
	for id := 499; id < api.MaxBlocks; id++ {
		parent := 4 + id%495
		if id < 1300 {
			parent = 1 + id%2
		}
		text, props := strings.Repeat("[[a]]", 400), toFirst
		if parent == 1 {
			text, props = strings.Repeat("[[b]]", 400), toSecond
		}
		if id == 501 {
			text = strings.Repeat("[[a]]", 399) + "[[c]]"
		}
		l[parent].Kids = append(l[parent].Kids, id)
		add(id, parent, text, props)
	}
	return l
}
