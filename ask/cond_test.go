package ask_test

import (
	"fmt"
	"math"
	"strings"
	"testing"

	"florilegium/api"
	"florilegium/ask"
)

// P5.1

// basics has a right condition of each operation.
func basics() []ask.Cond {
	return []ask.Cond{
		ask.And: kids(ask.And, page(), page()), ask.Or: kids(ask.Or, page()), ask.Not: kids(ask.Not, page()),
		ask.Says: words(ask.Says, "a"), ask.LinksTo: words(ask.LinksTo, "a"), ask.Tagged: words(ask.Tagged, "a"),
		ask.InPage: words(ask.InPage, "a"), ask.IsPage: page(), ask.Deep: number(ask.Deep, 1), ask.Under: number(ask.Under, 1),
		ask.Has: has("a"), ask.Equal: value(ask.Equal, "a", num(1)), ask.Less: value(ask.Less, "a", num(1)),
		ask.More: value(ask.More, "a", num(1)), ask.Parent: kids(ask.Parent, page()),
		ask.SomeKid: kids(ask.SomeKid, page()), ask.SomeBelow: kids(ask.SomeBelow, page()),
	}
}

func TestRightConditions(t *testing.T) {
	for op, c := range basics() {
		if op == 0 {
			continue
		}
		if c.Op != op {
			t.Fatal(op)
		}
		wantError(t, fmt.Sprint(op), ask.CheckCond(c), api.OK)
	}
	for _, c := range []ask.Cond{
		kids(ask.And), kids(ask.Or), {Op: ask.IsPage, Kids: []ask.Cond{}, Value: api.Value{Items: []api.Value{}}},
		kids(ask.Not, kids(ask.And)), value(ask.Equal, "a", list()), value(ask.Less, "a", api.Value{Kind: api.Flag}),
		within(ask.Not, 39, page()), within(ask.SomeBelow, 39, kids(ask.And)), kids(ask.And, make60()...),
	} {
		wantError(t, fmt.Sprint(c), ask.CheckCond(c), api.OK)
	}
}

// make60 gives kids so that a condition with them has 60 nodes, and is 40 deep.
func make60() []ask.Cond {
	l := []ask.Cond{within(ask.Parent, 38, page())} // 39 nodes, 39 deep
	for range 20 {
		l = append(l, page())
	}
	return l
}

func TestTooManyNodes(t *testing.T) {
	wrong := ask.Cond{Op: -1}
	endless := kids(ask.And, page(), page())
	endless.Kids[1] = endless
	for name, c := range map[string]ask.Cond{
		"61 nodes":               kids(ask.And, append(make60(), page())...),
		"61 nodes, also wrong":   kids(-1, append(make60(), wrong)...),
		"61 nodes, also deep":    within(ask.Not, 60, page()),
		"61 nodes, two by two":   kids(ask.And, kids(ask.Or, make60()[10:]...), kids(ask.Or, make([]ask.Cond, 48)...)),
		"more than can be read":  kids(ask.Or, make([]ask.Cond, 3_000_000)...),
		"nested without an end":  endless,
		"nested very deep":       within(ask.Not, 400_000, page()),
		"with kids where no one": {Op: ask.IsPage, Kids: make([]ask.Cond, 60)},
	} {
		wantError(t, name, ask.CheckCond(c), api.ErrLarge)
	}
}

func TestTooDeep(t *testing.T) {
	for name, c := range map[string]ask.Cond{
		"41 deep":              within(ask.Not, 40, page()),
		"41 deep, the last":    kids(ask.And, page(), within(ask.Not, 39, page()), page()),
		"41 deep, also wrong":  kids(99, within(ask.Not, 39, ask.Cond{})),
		"60 deep, all of them": within(ask.And, 59, page()),
	} {
		wantError(t, name, ask.CheckCond(c), api.ErrDeep)
	}
}

func TestUnknownOperations(t *testing.T) {
	for _, op := range []int{math.MinInt, -1, 0, 18, 19, math.MaxInt} {
		wantError(t, fmt.Sprint(op), ask.CheckCond(ask.Cond{Op: op}), api.ErrKind)
		full := ask.Cond{Op: op, Name: "a", Text: "a", Value: num(1), Num: 1, Kids: []ask.Cond{{}}}
		wantError(t, fmt.Sprint(op), ask.CheckCond(full), api.ErrKind)
	}
}

// Each field that an operation does not use must be zero, whatever else is wrong.
func TestUnusedFields(t *testing.T) {
	uses := map[int]string{
		ask.And: "Kids", ask.Or: "Kids", ask.Not: "Kids", ask.Parent: "Kids", ask.SomeKid: "Kids", ask.SomeBelow: "Kids",
		ask.Says: "Text", ask.LinksTo: "Text", ask.Tagged: "Text", ask.InPage: "Text", ask.Deep: "Num", ask.Under: "Num",
		ask.Has: "Name", ask.Equal: "Name Value", ask.Less: "Name Value", ask.More: "Name Value",
	}
	for op, right := range basics() {
		if op == 0 {
			continue
		}
		for name, change := range map[string]func(c *ask.Cond){
			"Name":        func(c *ask.Cond) { c.Name = "a" },
			"Text":        func(c *ask.Cond) { c.Text = "a" },
			"Num":         func(c *ask.Cond) { c.Num = -1 },
			"Kids":        func(c *ask.Cond) { c.Kids = []ask.Cond{{}} },
			"Value":       func(c *ask.Cond) { c.Value = num(1) },
			"Value.Kind":  func(c *ask.Cond) { c.Value.Kind = -1 },
			"Value.Int":   func(c *ask.Cond) { c.Value.Int = 1 },
			"Value.To":    func(c *ask.Cond) { c.Value.To = -1 },
			"Value.Text":  func(c *ask.Cond) { c.Value.Text = "a" },
			"Value.Items": func(c *ask.Cond) { c.Value.Items = []api.Value{{}} },
		} {
			field, _, _ := strings.Cut(name, ".")
			if strings.Contains(uses[op], field) {
				continue
			}
			for _, c := range []ask.Cond{right, {Op: op}} {
				change(&c)
				wantError(t, fmt.Sprint(op, name), ask.CheckCond(c), api.ErrForm)
			}
		}
	}
}

func TestNumberOfKids(t *testing.T) {
	for _, op := range []int{ask.Not, ask.Parent, ask.SomeKid, ask.SomeBelow} {
		wantError(t, "no kid", ask.CheckCond(kids(op)), api.ErrForm)
		wantError(t, "two kids", ask.CheckCond(kids(op, page(), page())), api.ErrForm)
		wantError(t, "two wrong kids", ask.CheckCond(kids(op, ask.Cond{}, ask.Cond{})), api.ErrForm)
		wantError(t, "one wrong kid", ask.CheckCond(kids(op, ask.Cond{})), api.ErrKind)
	}
}

func TestWords(t *testing.T) {
	long := strings.Repeat("a", 300)
	for _, c := range []struct {
		s                   string
		says, title, tagged api.Errno
	}{
		{"", api.ErrLarge, api.ErrName, api.ErrName},
		{"a", api.OK, api.OK, api.OK},
		{"A-_/9", api.OK, api.OK, api.OK},
		{"\xff\x80", api.OK, api.OK, api.OK},
		{"1", api.OK, api.OK, api.ErrName},
		{"1_", api.OK, api.OK, api.ErrName},
		{"1a", api.OK, api.OK, api.OK},
		{"a//b", api.OK, api.OK, api.OK},
		{"/a", api.OK, api.OK, api.ErrName},
		{"a/", api.OK, api.OK, api.ErrName},
		{"#a", api.OK, api.OK, api.ErrName},
		{"a b", api.OK, api.OK, api.ErrName},
		{"a.", api.OK, api.OK, api.ErrName},
		{`"\`, api.OK, api.OK, api.ErrName},
		{" ", api.OK, api.ErrName, api.ErrName},
		{" a", api.OK, api.ErrName, api.ErrName},
		{"a ", api.OK, api.ErrName, api.ErrName},
		{"a[b", api.OK, api.ErrName, api.ErrName},
		{"a]b", api.OK, api.ErrName, api.ErrName},
		{"a|b", api.OK, api.ErrName, api.ErrName},
		{"a`b", api.OK, api.ErrName, api.ErrName},
		{"a\x00", api.ErrByte, api.ErrName, api.ErrName},
		{"a\x1fb", api.ErrByte, api.ErrName, api.ErrName},
		{"a\nb", api.ErrByte, api.ErrName, api.ErrName},
		{"a\x7fb", api.ErrByte, api.OK, api.ErrName},
		{"a\x80b", api.OK, api.OK, api.OK},
		{long[:100], api.OK, api.OK, api.OK},
		{long[:101], api.OK, api.ErrName, api.ErrName},
		{long[:200], api.OK, api.ErrName, api.ErrName},
		{long[:201], api.ErrLarge, api.ErrName, api.ErrName},
		{long + "\n", api.ErrLarge, api.ErrName, api.ErrName},
	} {
		wantError(t, fmt.Sprintf("says %q", c.s), ask.CheckCond(words(ask.Says, c.s)), c.says)
		wantError(t, fmt.Sprintf("links %q", c.s), ask.CheckCond(words(ask.LinksTo, c.s)), c.title)
		wantError(t, fmt.Sprintf("page %q", c.s), ask.CheckCond(words(ask.InPage, c.s)), c.title)
		wantError(t, fmt.Sprintf("tag %q", c.s), ask.CheckCond(words(ask.Tagged, c.s)), c.tagged)
	}
}

func TestNumbers(t *testing.T) {
	for n, wanted := range map[int]api.Errno{
		0: api.OK, 1: api.OK, api.MaxId: api.OK,
		-1: api.ErrRange, api.MaxId + 1: api.ErrRange, math.MinInt: api.ErrRange, math.MaxInt: api.ErrRange,
	} {
		wantError(t, fmt.Sprint("deep ", n), ask.CheckCond(number(ask.Deep, n)), wanted)
		wantError(t, fmt.Sprint("under ", n), ask.CheckCond(number(ask.Under, n)), wanted)
	}
}

func TestNamesAndValues(t *testing.T) {
	long := strings.Repeat("n", 21)
	for name, wanted := range map[string]api.Errno{
		"a": api.OK, "a-9": api.OK, long[:20]: api.OK, long: api.ErrName, "": api.ErrName, "A": api.ErrName, "-a": api.ErrName,
		"9": api.ErrName, "a b": api.ErrName, "a_": api.ErrName, ask.ById: api.ErrName, "\xe9": api.ErrName,
	} {
		wantError(t, name, ask.CheckCond(has(name)), wanted)
		for _, op := range []int{ask.Equal, ask.Less, ask.More} {
			wantError(t, name, ask.CheckCond(value(op, name, num(1))), wanted)
			if wanted != api.OK { // this comes before all errors of the value
				wantError(t, name, ask.CheckCond(value(op, name, api.Value{})), wanted)
				wantError(t, name, ask.CheckCond(value(op, name, str("\n"))), wanted)
			}
		}
	}
	for _, c := range []struct {
		v      api.Value
		wanted api.Errno
	}{
		{api.Value{}, api.ErrKind}, {api.Value{Int: 1}, api.ErrKind}, {api.Value{Kind: 8}, api.ErrKind}, {api.Value{Kind: -1}, api.ErrKind},
		{api.Value{Kind: api.Flag, Int: 1, To: 1}, api.ErrForm}, {api.Value{Kind: api.Flag, Int: 2}, api.ErrRange},
		{num(api.MaxNumber + 1), api.ErrRange}, {num(-api.MaxNumber), api.OK}, {api.Value{Kind: api.Span, Int: 2, To: 1}, api.ErrOrder},
		{str("a\n"), api.ErrByte}, {str(strings.Repeat("a", api.MaxString+1)), api.ErrLarge}, {str(""), api.OK},
		{api.Value{Kind: api.Link}, api.ErrForm}, {api.Value{Kind: api.Date, Int: api.MaxDay}, api.OK},
		{list(num(1), list()), api.ErrKind}, {list(num(1), str("x")), api.OK}, {list(make([]api.Value, 21)...), api.ErrLarge},
	} {
		for _, op := range []int{ask.Equal, ask.Less, ask.More} {
			wantError(t, fmt.Sprint(c.v), ask.CheckCond(value(op, "a", c.v)), c.wanted)
		}
	}
}

// The error of a node comes before those of its kids, and those of a kid before those of the next one.
func TestOrderOfNodes(t *testing.T) {
	name, kind, form, large := has(""), ask.Cond{}, kids(ask.Not), words(ask.Says, "")
	for _, c := range []struct {
		c      ask.Cond
		wanted api.Errno
	}{
		{kids(ask.And, name, kind), api.ErrName},
		{kids(ask.And, page(), kind, name), api.ErrKind},
		{kids(ask.And, kids(ask.Or, page(), large), form), api.ErrLarge},
		{kids(ask.And, kids(ask.Or, page(), page()), form, large), api.ErrForm},
		{kids(ask.And, form, kids(ask.Or, large)), api.ErrForm},
		{kids(0, name), api.ErrKind},
		{ask.Cond{Op: ask.Or, Num: 1, Kids: []ask.Cond{kind, name}}, api.ErrForm},
		{kids(ask.Or, kids(ask.Not, kids(ask.SomeKid, name)), kind), api.ErrName},
		{kids(ask.Or, page(), page(), page(), kids(ask.Parent, name)), api.ErrName},
	} {
		wantError(t, fmt.Sprint(c.c), ask.CheckCond(c.c), c.wanted)
	}
}
