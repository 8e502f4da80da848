package ask_test

import (
	"fmt"
	"math"
	"testing"

	"florilegium/api"
	"florilegium/ask"
	"florilegium/tree"
)

// P5.5

// shelf is a base of which the order is 9 1 8 2 7 3 4 5 6.
func shelf() []api.Block {
	return base(
		"9 b ; n:: 2 ; s:: \"x\"",
		"  1 **a**1 ; n:: 10",
		"    8 [[z|a]] ; n:: \"2\"",
		"  2 B ; n:: 2 ; s:: \"x\"",
		"7 a ; s:: \"y\"",
		"  3 \\#b ; n:: -1 ; s:: \"x\"",
		"4  ; n:: [1] ; s:: yes",
		"5 \xff ; n:: 2",
		"6 a ; n:: 10 ; s:: \"X\"",
	)
}

func wantGroups(t *testing.T, l []api.Block, lines string, wanted ...ask.Group) {
	t.Helper()
	q := must(ask.ReadQuestion(lines))
	got, bad := ask.Ask(l, q)
	want(t, lines, got, wanted, bad, api.OK)
	x := must(ask.NewIndex(l))
	got, bad = x.Ask(q)
	want(t, "index: "+lines, got, wanted, bad, api.OK)
	want(t, "live: "+lines, must(ask.NewLive(l, q)).Groups(), wanted, bad, api.OK)
}

func TestSorts(t *testing.T) {
	for lines, wanted := range map[string][]int{
		"":                                    {9, 1, 8, 2, 7, 3, 4, 5, 6},
		"sort @id up\n":                       {1, 2, 3, 4, 5, 6, 7, 8, 9},
		"sort @id down\n":                     {9, 8, 7, 6, 5, 4, 3, 2, 1},
		"sort @text up\n":                     {4, 3, 2, 8, 7, 6, 1, 9, 5}, // what is shown: nothing, #b, B, a, a, a, a1, b, a byte 255
		"sort @text down\n":                   {5, 9, 1, 8, 7, 6, 2, 3, 4}, // those that are equal stay in order
		"sort @depth up\n":                    {9, 7, 4, 5, 6, 1, 2, 3, 8},
		"sort @depth down\n":                  {8, 1, 2, 3, 9, 7, 4, 5, 6},
		"sort n up\n":                         {3, 9, 2, 5, 1, 6, 8, 4, 7},
		"sort n down\n":                       {4, 8, 1, 6, 9, 2, 5, 3, 7}, // that without n is still the last one
		"sort none up\n":                      {9, 1, 8, 2, 7, 3, 4, 5, 6},
		"sort none down\n":                    {9, 1, 8, 2, 7, 3, 4, 5, 6},
		"sort s up\n":                         {4, 6, 9, 2, 3, 7, 1, 8, 5},
		"sort s down\n":                       {7, 9, 2, 3, 6, 4, 1, 8, 5},
		"sort s up\nsort n up\n":              {4, 6, 3, 9, 2, 7, 5, 1, 8},
		"sort s up\nsort n down\n":            {4, 6, 9, 2, 3, 7, 8, 1, 5},
		"sort n up\nsort s up\nsort @id up\n": {3, 2, 9, 5, 6, 1, 8, 4, 7},
		"sort @depth down\nsort @text up\n":   {8, 3, 2, 1, 4, 7, 6, 9, 5},
		"sort @depth up\nsort n down\nsort none up\nsort s down\nsort @id down\n": {4, 6, 9, 5, 7, 1, 2, 3, 8},
	} {
		wantGroups(t, shelf(), "where all()\n"+lines, group(api.Value{}, wanted...))
	}
}

func TestGroups(t *testing.T) {
	none := api.Value{}
	wantGroups(t, example(), "where all(page \"a\", has(n))\nsort n up\n", group(none, 3, 2))

	// Without Group there is one group, also with no block; with Group there may be none.
	wantGroups(t, shelf(), "where any()\n", group(none))
	wantGroups(t, shelf(), "where any()\nsort n up\nmost 3\n", group(none))
	wantGroups(t, shelf(), "where any()\ngroup n\n")
	wantGroups(t, tree.Empty(), "where all()\n", group(none))
	wantGroups(t, tree.Empty(), "where all()\ngroup n\nmost 1\n")

	// By value, those without it at last.
	flag := api.Value{Kind: api.Flag, Int: 1}
	wantGroups(t, shelf(), "where all()\ngroup n\n",
		group(num(-1), 3), group(num(2), 9, 2, 5), group(num(10), 1, 6), group(str("2"), 8), group(list(num(1)), 4), group(none, 7))
	wantGroups(t, shelf(), "where all()\ngroup s\n",
		group(flag, 4), group(str("X"), 6), group(str("x"), 9, 2, 3), group(str("y"), 7), group(none, 1, 8, 5))
	wantGroups(t, shelf(), "where has(s)\ngroup s\n",
		group(flag, 4), group(str("X"), 6), group(str("x"), 9, 2, 3), group(str("y"), 7))
	wantGroups(t, shelf(), "where not(has(n))\ngroup n\n", group(none, 7))
	wantGroups(t, shelf(), "where all()\ngroup none\n", group(none, 9, 1, 8, 2, 7, 3, 4, 5, 6))

	// The sorts hold within each group.
	wantGroups(t, shelf(), "where all()\nsort @id down\ngroup s\n",
		group(flag, 4), group(str("X"), 6), group(str("x"), 9, 3, 2), group(str("y"), 7), group(none, 8, 5, 1))
	wantGroups(t, shelf(), "where all()\nsort s down\nsort n up\ngroup s\n",
		group(flag, 4), group(str("X"), 6), group(str("x"), 3, 9, 2), group(str("y"), 7), group(none, 5, 1, 8))

	// The first ones of each group.
	wantGroups(t, shelf(), "where all()\nsort @id down\ngroup s\nmost 2\n",
		group(flag, 4), group(str("X"), 6), group(str("x"), 9, 3), group(str("y"), 7), group(none, 8, 5))
	wantGroups(t, shelf(), "where all()\nsort n down\nmost 1\n", group(none, 4))
	wantGroups(t, shelf(), "where all()\nmost 9\n", group(none, 9, 1, 8, 2, 7, 3, 4, 5, 6))
	wantGroups(t, shelf(), "where all()\nmost 2000\n", group(none, 9, 1, 8, 2, 7, 3, 4, 5, 6))
}

func TestTable(t *testing.T) {
	columns := []string{"n", ask.ByText, ask.ById, "s", ask.ByDepth, "none", "n"}
	got, bad := ask.Table(shelf(), []int{8, 4, 7, 8}, columns)
	eighth := []api.Value{str("2"), str("a"), num(8), {}, num(3), {}, str("2")}
	want(t, "Table", got, [][]api.Value{
		eighth,
		{list(num(1)), str(""), num(4), {Kind: api.Flag, Int: 1}, num(1), {}, list(num(1))},
		{{}, str("a"), num(7), str("y"), num(1), {}, {}},
		eighth,
	}, bad, api.OK)
	got, bad = ask.Table(shelf(), nil, columns)
	want(t, "no rows", len(got), 0, bad, api.OK)
	got, bad = ask.Table(shelf(), []int{5, 6}, nil)
	want(t, "no columns", got, [][]api.Value{{}, {}}, bad, api.OK)
	got, bad = ask.Table(tree.Empty(), nil, nil)
	want(t, "nothing", len(got), 0, bad, api.OK)

	many := make([]int, api.MaxBlocks)
	for i := range many {
		many[i] = 1 + i%9
	}
	ten := []string{"@id", "@id", "@id", "a", "a", "b", "c", "d", "e", "@id"}
	got, bad = ask.Table(shelf(), many, ten)
	want(t, "the largest one", len(got), api.MaxBlocks, bad, api.OK)
	want(t, "its last row", got[api.MaxBlocks-1], []api.Value{num(2), num(2), num(2), {}, {}, {}, {}, {}, {}, num(2)}, bad, api.OK)
}

func TestTableErrors(t *testing.T) {
	many := make([]int, api.MaxBlocks+1)
	eleven := make([]string, 11)
	right := []string{"a"}
	for name, c := range map[string]struct {
		l       []api.Block
		ids     []int
		columns []string
		wanted  api.Errno
	}{
		"wrong base":                 {[]api.Block{{Id: 1}}, many, eleven, api.ErrRange},
		"no base":                    {nil, many, eleven, api.ErrForm},
		"too many ids":               {shelf(), many, []string{""}, api.ErrLarge},
		"too many columns":           {shelf(), []int{0}, eleven, api.ErrLarge},
		"the root":                   {shelf(), []int{0}, []string{""}, api.ErrNone},
		"no such block":              {shelf(), []int{1, 10}, []string{""}, api.ErrNone},
		"below 0":                    {shelf(), []int{1, math.MinInt}, right, api.ErrNone},
		"the root as the last":       {shelf(), []int{1, 2, 3, 0}, right, api.ErrNone},
		"empty column":               {shelf(), []int{1}, []string{""}, api.ErrName},
		"empty column, without rows": {shelf(), nil, []string{""}, api.ErrName},
		"the last column":            {shelf(), []int{1}, []string{"a", "@text", "@texts"}, api.ErrName},
		"in other letters":           {shelf(), []int{1}, []string{"@Depth"}, api.ErrName},
	} {
		got, bad := ask.Table(c.l, c.ids, c.columns)
		want(t, name, got, nil, bad, c.wanted)
	}
}

func TestSameGroups(t *testing.T) {
	deep := list(num(1), list(list(str("x"))))
	all := [][]ask.Group{
		nil,
		{group(api.Value{})},
		{group(api.Value{}), group(api.Value{})},
		{group(api.Value{}, 1)},
		{group(api.Value{}, 2)},
		{group(api.Value{}, 1, 2)},
		{group(api.Value{}, 2, 1)},
		{group(num(0), 1)},
		{group(num(1), 1)},
		{group(num(1), 1), group(num(2), 2)},
		{group(num(2), 2), group(num(1), 1)},
		{group(num(1), 1), group(num(2), 3)},
		{group(str("x"), 1)},
		{group(api.Value{Kind: api.Link, Text: "x"}, 1)},
		{group(api.Value{Kind: api.Span, Int: 1}, 1)},
		{group(api.Value{Kind: api.Span, Int: 1, To: 1}, 1)},
		{group(api.Value{Kind: api.Number, Int: 1, To: 1}, 1)}, // fields that a kind does not use count, too
		{group(list(), 1)},
		{group(list(num(1)), 1)},
		{group(list(num(1), num(1)), 1)},
		{group(list(num(2)), 1)},
		{group(deep, 1)},
		{group(list(num(1), list(list(str("y")))), 1)},
	}
	for i, a := range all {
		for k, b := range all {
			if got := ask.SameGroups(a, plain(b)); got != (i == k) {
				t.Error(a, b, got)
			}
		}
	}
	empty := []ask.Group{{Value: api.Value{Items: []api.Value{}}, Ids: []int{}}}
	for _, c := range []struct {
		a, b   []ask.Group
		wanted bool
	}{
		{nil, []ask.Group{}, true}, {empty, []ask.Group{{}}, true}, {empty, nil, false}, {[]ask.Group{{}}, []ask.Group{}, false},
	} {
		if ask.SameGroups(c.a, c.b) != c.wanted || ask.SameGroups(c.b, c.a) != c.wanted {
			t.Error(fmt.Sprint(c))
		}
	}
}
