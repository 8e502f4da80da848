package tree_test

import (
	"strings"
	"testing"

	"florilegium/api"
	"florilegium/tree"
)

// P3.4

// wantOps is want for operations, which must be ones that can be done, and make a certain base.
func wantOps(t *testing.T, name string, l []api.Block, got []tree.Op, bad api.Errno, wanted []tree.Op, made []api.Block) {
	t.Helper()
	want(t, name, got, wanted, bad, api.OK)
	next, at, bad := tree.All(l, got)
	if bad != api.OK || !tree.Same(next, made) {
		t.Errorf("%s makes %.600v (%d, %d)", name, next, at, bad)
	}
}

func TestPrune(t *testing.T) {
	none := api.Value{}
	for _, c := range []struct {
		name string
		base []api.Block
		id   int
		ops  []tree.Op
		made []api.Block
	}{
		{"alone", zoo(), 3, []tree.Op{remove(3)}, after(zoo(), remove(3))},
		{"properties", zoo(), 4, []tree.Op{set(4, "a", none), set(4, "b", none), remove(4)}, after(zoo(), remove(4))},
		{
			"kids of kids", zoo(), 5,
			[]tree.Op{remove(7), set(4, "a", none), set(4, "b", none), remove(4), remove(9), remove(2), set(5, "n", none), remove(5)},
			base("3 dogs", "8 birds", "  6 owl", "  1 tit z=3", "    10 blue"),
		},
		{"within a page", zoo(), 1, []tree.Op{remove(10), set(1, "z", none), remove(1)}, after(zoo(), remove(10), remove(1))},
		{"the only page", base("1 a", "  3 b", "  2 c"), 1, []tree.Op{remove(2), remove(3), remove(1)}, tree.Empty()},
	} {
		got, bad := tree.Prune(c.base, c.id)
		wantOps(t, c.name, c.base, got, bad, c.ops, c.made)
	}
	for _, id := range []int{-1, 0, 11} {
		got, bad := tree.Prune(zoo(), id)
		want(t, "Prune of none", got, nil, bad, api.ErrNone)
	}
	if got := must(tree.Prune(crowd(tree.Empty(), api.MaxBlocks), 5000)); len(got) != 401 || got[0].Id != 5400 || got[399].Id != 5001 {
		t.Error(len(got))
	}
}

func TestIndent(t *testing.T) {
	for _, c := range []struct {
		base []api.Block
		id   int
		o    tree.Op
		bad  api.Errno
	}{
		{example(), 3, move(3, 2, 0), api.OK},
		{zoo(), 3, move(3, 5, 2), api.OK},
		{zoo(), 8, move(8, 3, 0), api.OK},
		{zoo(), 7, move(7, 2, 2), api.OK},
		{zoo(), -1, tree.Op{}, api.ErrNone},
		{zoo(), 0, tree.Op{}, api.ErrNone},
		{zoo(), 11, tree.Op{}, api.ErrNone},
		{tree.Empty(), 0, tree.Op{}, api.ErrNone},
		{zoo(), 5, tree.Op{}, api.ErrState},
		{zoo(), 6, tree.Op{}, api.ErrState},
		{widen(wide(tree.MaxKids), 0, 900, 1), 900, tree.Op{}, api.ErrFull},
		{widen(wide(tree.MaxKids-1), 0, 900, 1), 900, move(900, 1, tree.MaxKids-1), api.OK},
		{chains(1, api.MaxDeep), 2, tree.Op{}, api.ErrDeep},
		{chains(1, api.MaxDeep-1), 2, move(2, 1, 0), api.OK},
		{widen(chain(api.MaxDeep), api.MaxDeep-1, 99, 1), 99, tree.Op{}, api.ErrDeep},
	} {
		got, bad := tree.Indent(c.base, c.id)
		want(t, "Indent", got, c.o, bad, c.bad)
	}
	got := must(tree.Indent(zoo(), 3))
	if made := after(zoo(), got); !tree.Same(made, base("5 cats n=1", "  2 tom", "    9 grey", "    4 old a=1 b=2", "  7 kit", "  3 dogs", "8 birds", "  6 owl", "  1 tit z=3", "    10 blue")) {
		t.Error(made)
	}
}

func TestOutdent(t *testing.T) {
	full := widen(widen(base("1"), 0, 2, tree.MaxKids-1), 1, 900, 1)
	for _, c := range []struct {
		base []api.Block
		id   int
		o    tree.Op
		bad  api.Errno
	}{
		{base("1 A", "  2 b", "    3 c"), 3, move(3, 1, 1), api.OK},
		{zoo(), 2, move(2, 0, 1), api.OK},
		{zoo(), 7, move(7, 0, 1), api.OK},
		{zoo(), 6, move(6, 0, 3), api.OK},
		{zoo(), 10, move(10, 8, 2), api.OK},
		{zoo(), -1, tree.Op{}, api.ErrNone},
		{zoo(), 0, tree.Op{}, api.ErrNone},
		{zoo(), 11, tree.Op{}, api.ErrNone},
		{zoo(), 5, tree.Op{}, api.ErrState},
		{zoo(), 8, tree.Op{}, api.ErrState},
		{full, 900, tree.Op{}, api.ErrFull},
		{full, 1, tree.Op{}, api.ErrState},
		{tree.Empty(), 0, tree.Op{}, api.ErrNone},
		{chain(api.MaxDeep), api.MaxDeep, move(api.MaxDeep, api.MaxDeep-2, 1), api.OK},
	} {
		got, bad := tree.Outdent(c.base, c.id)
		want(t, "Outdent", got, c.o, bad, c.bad)
	}
	got := must(tree.Outdent(zoo(), 9))
	if made := after(zoo(), got); !tree.Same(made, base("5 cats n=1", "  2 tom", "    4 old a=1 b=2", "  9 grey", "  7 kit", "3 dogs", "8 birds", "  6 owl", "  1 tit z=3", "    10 blue")) {
		t.Error(made)
	}
}

func TestSplit(t *testing.T) {
	for _, c := range []struct {
		id, at int
		ops    []tree.Op
		made   []api.Block
	}{
		{9, 2, []tree.Op{edit(9, 2, 4, ""), insert(11, 2, 1, "ey")}, base("5 cats n=1", "  2 tom", "    9 gr", "    11 ey", "    4 old a=1 b=2", "  7 kit", "3 dogs", "8 birds", "  6 owl", "  1 tit z=3", "    10 blue")},
		{2, 0, []tree.Op{edit(2, 0, 3, ""), insert(11, 5, 1, "tom")}, base("5 cats n=1", "  2 ", "    9 grey", "    4 old a=1 b=2", "  11 tom", "  7 kit", "3 dogs", "8 birds", "  6 owl", "  1 tit z=3", "    10 blue")},
		{8, 5, []tree.Op{edit(8, 5, 5, ""), insert(11, 0, 3, "")}, base("5 cats n=1", "  2 tom", "    9 grey", "    4 old a=1 b=2", "  7 kit", "3 dogs", "8 birds", "  6 owl", "  1 tit z=3", "    10 blue", "11")},
	} {
		got, bad := tree.Split(zoo(), c.id, c.at)
		wantOps(t, "Split", zoo(), got, bad, c.ops, c.made)
	}
	last := base("1 ab", "1000000 b")
	for _, c := range []struct {
		name   string
		base   []api.Block
		id, at int
		bad    api.Errno
	}{
		{"no block", last, 7, -1, api.ErrNone},
		{"root", last, 0, 0, api.ErrNone},
		{"root alone", tree.Empty(), 0, 0, api.ErrNone},
		{"at below 0", last, 1, -1, api.ErrRange},
		{"at too great", last, 1, 3, api.ErrRange},
		{"no id", last, 1, 1, api.ErrFull},
		{"too many blocks", crowd(example(), api.MaxBlocks), 1, 1, api.ErrFull},
		{"too many kids", wide(tree.MaxKids), 2, 0, api.ErrFull},
		{"deepest", chain(api.MaxDeep), api.MaxDeep, 0, api.OK},
		{"last id", base("999999 a"), 999999, 0, api.OK},
	} {
		if got, bad := tree.Split(c.base, c.id, c.at); bad != c.bad || bad != api.OK && len(got) != 0 {
			t.Errorf("Split, %s: %v, %d", c.name, got, bad)
		}
	}
}

func TestJoin(t *testing.T) {
	none := api.Value{}
	several := base("1 A x=1", "  2 b", "    3 c", "4 D x=2 y=3", "  9 e", "    5 f z=1", "  6 g", "7 H")
	for _, c := range []struct {
		name string
		base []api.Block
		id   int
		ops  []tree.Op
		made []api.Block
	}{
		{"without kids", example(), 2, []tree.Op{edit(2, 1, 1, "c"), remove(3)}, base("1 A", "  2 bc")},
		{
			"kids and properties", several, 1,
			[]tree.Op{edit(1, 1, 1, "D"), move(9, 1, 1), move(6, 1, 2), set(4, "x", none), set(4, "y", none), remove(4)},
			base("1 AD x=1", "  2 b", "    3 c", "  9 e", "    5 f z=1", "  6 g", "7 H"),
		},
		{"kids of the first one alone", base("1 a", "  2 b", "3 c"), 1, []tree.Op{edit(1, 1, 1, "c"), remove(3)}, base("1 ac", "  2 b")},
		{"in the middle", base("1", "  2 x", "  3 y", "    4 z", "  5 w"), 2, []tree.Op{edit(2, 1, 1, "y"), move(4, 2, 0), remove(3)}, base("1", "  2 xy", "    4 z", "  5 w")},
		{"no text", base("1", "2"), 1, []tree.Op{edit(1, 0, 0, ""), remove(2)}, base("1")},
	} {
		got, bad := tree.Join(c.base, c.id)
		wantOps(t, c.name, c.base, got, bad, c.ops, c.made)
	}
	texts := func(a, b int) []api.Block {
		return changed(example(), func(l []api.Block) { l[2].Text, l[3].Text = strings.Repeat("b", a), strings.Repeat("c", b) })
	}
	kids := func(a, b int) []api.Block { return widen(widen(example(), 2, 100, a), 3, 1000, b) }
	for _, c := range []struct {
		name string
		base []api.Block
		id   int
		bad  api.Errno
	}{
		{"no block", zoo(), 11, api.ErrNone},
		{"below 0", zoo(), -1, api.ErrNone},
		{"root", zoo(), 0, api.ErrNone},
		{"root alone", tree.Empty(), 0, api.ErrNone},
		{"last page", zoo(), 8, api.ErrState},
		{"last kid", zoo(), 7, api.ErrState},
		{"only kid", zoo(), 10, api.ErrState},
		{"longest text", texts(api.MaxString-1, 1), 2, api.OK},
		{"long text, many kids", changed(kids(1, tree.MaxKids), func(l []api.Block) { l[2].Text = strings.Repeat("b", api.MaxString) }), 2, api.ErrLarge},
		{"long text", texts(1, api.MaxString), 2, api.ErrLarge},
		{"all kids", kids(200, tree.MaxKids-200), 2, api.OK},
		{"too many kids", kids(201, tree.MaxKids-200), 2, api.ErrFull},
	} {
		if got, bad := tree.Join(c.base, c.id); bad != c.bad || bad != api.OK && len(got) != 0 {
			t.Errorf("Join, %s: %d operations, %d", c.name, len(got), bad)
		}
	}
}
