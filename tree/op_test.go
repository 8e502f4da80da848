package tree_test

import (
	"math"
	"slices"
	"strings"
	"testing"

	"florilegium/api"
	"florilegium/tree"
)

// P3.3

func TestApply(t *testing.T) {
	for _, c := range []struct {
		name string
		base []api.Block
		o    tree.Op
		want []api.Block
	}{
		{"first page", tree.Empty(), insert(1, 0, 0, "A"), base("1 A")},
		{"first kid", example(), insert(4, 1, 0, "x"), base("1 A", "  4 x", "  2 b", "  3 c")},
		{"middle kid", example(), insert(4, 1, 1, "x"), base("1 A", "  2 b", "  4 x", "  3 c")},
		{"last kid", example(), insert(4, 1, 2, ""), base("1 A", "  2 b", "  3 c", "  4")},
		{"greatest id", example(), insert(api.MaxId, 3, 0, "x"), base("1 A", "  2 b", "  3 c", "    1000000 x")},
		{"id in a gap", base("2 a", "7 b"), insert(5, 2, 0, "x"), base("2 a", "  5 x", "7 b")},
		{"least id", base("2 a"), insert(1, 0, 0, "x"), base("1 x", "2 a")},
		{"page before others", example(), insert(9, 0, 0, "x"), base("9 x", "1 A", "  2 b", "  3 c")},
		{"remove first", example(), remove(2), base("1 A", "  3 c")},
		{"remove last", example(), remove(3), base("1 A", "  2 b")},
		{"remove a page", zoo(), remove(3), base("5 cats n=1", "  2 tom", "    9 grey", "    4 old a=1 b=2", "  7 kit", "8 birds", "  6 owl", "  1 tit z=3", "    10 blue")},
		{"remove with properties", zoo(), remove(4), base("5 cats n=1", "  2 tom", "    9 grey", "  7 kit", "3 dogs", "8 birds", "  6 owl", "  1 tit z=3", "    10 blue")},
		{"move on among its siblings", base("1 a", "2 b", "3 c"), move(1, 0, 1), base("2 b", "1 a", "3 c")},
		{"move to the end", base("1 a", "2 b", "3 c"), move(1, 0, 2), base("2 b", "3 c", "1 a")},
		{"move to the beginning", base("1 a", "2 b", "3 c"), move(3, 0, 0), base("3 c", "1 a", "2 b")},
		{"move to where it is", base("1 a", "2 b", "3 c"), move(2, 0, 1), base("1 a", "2 b", "3 c")},
		{"move below a sibling", example(), move(3, 2, 0), base("1 A", "  2 b", "    3 c")},
		{"move up", example(), move(2, 0, 1), base("1 A", "  3 c", "2 b")},
		{"move with all below", zoo(), move(2, 8, 1), base("5 cats n=1", "  7 kit", "3 dogs", "8 birds", "  6 owl", "  2 tom", "    9 grey", "    4 old a=1 b=2", "  1 tit z=3", "    10 blue")},
		{"move a page below another one", zoo(), move(5, 10, 0), base("3 dogs", "8 birds", "  6 owl", "  1 tit z=3", "    10 blue", "      5 cats n=1", "        2 tom", "          9 grey", "          4 old a=1 b=2", "        7 kit")},
		{"edit", zoo(), edit(6, 1, 2, "ww"), changed(zoo(), func(l []api.Block) { l[6].Text = "owwl" })},
		{"edit without effect", zoo(), edit(6, 3, 3, ""), zoo()},
		{"edit all away", zoo(), edit(6, 0, 3, ""), changed(zoo(), func(l []api.Block) { l[6].Text = "" })},
		{"edit to the greatest length", example(), edit(2, 1, 1, strings.Repeat("a", api.MaxString-1)), changed(example(), func(l []api.Block) { l[2].Text = "b" + strings.Repeat("a", api.MaxString-1) })},
		{"first property", example(), set(2, "x", list(num(1))), changed(example(), func(l []api.Block) { l[2].Props = []api.Prop{pr("x", list(num(1)))} })},
		{"property between", zoo(), set(4, "aa", num(7)), changed(zoo(), func(l []api.Block) { l[4].Props = []api.Prop{pr("a", num(1)), pr("aa", num(7)), pr("b", num(2))} })},
		{"other value", zoo(), set(4, "a", num(7)), changed(zoo(), func(l []api.Block) { l[4].Props[0].Value = num(7) })},
		{"without a property", zoo(), set(4, "a", api.Value{}), changed(zoo(), func(l []api.Block) { l[4].Props = l[4].Props[1:] })},
		{"without one that is not there", zoo(), set(4, "c", api.Value{}), zoo()},
	} {
		got, bad := tree.Apply(c.base, c.o)
		want(t, c.name, got, c.want, bad, api.OK)
		if !tree.Same(got, c.want) {
			t.Error(c.name, "Same")
		}
	}
}

// What just fits.
func TestApplyAtLimits(t *testing.T) {
	withProps := func(count int) []api.Block {
		return changed(example(), func(l []api.Block) { l[1].Props = props(count) })
	}
	for _, c := range []struct {
		name string
		base []api.Block
		o    tree.Op
	}{
		{"Insert of the last block", crowd(tree.Empty(), api.MaxBlocks-1), insert(api.MaxId, 5000, 0, "")},
		{"Insert of the last kid", wide(tree.MaxKids - 1), insert(9999, 1, 499, "")},
		{"Insert of the deepest block", chain(api.MaxDeep - 1), insert(99, api.MaxDeep-1, 0, "")},
		{"Insert of the longest text", tree.Empty(), insert(1, 0, 0, strings.Repeat("~", api.MaxString))},
		{"Move of the last kid", widen(wide(tree.MaxKids-1), 0, 900, 1), move(900, 1, tree.MaxKids-1)},
		{"Move among full kids", wide(tree.MaxKids), move(2, 1, tree.MaxKids-1)},
		{"Move of a kid of full kids", wide(tree.MaxKids), move(2, 3, 0)},
		{"Move in a full base", crowd(tree.Empty(), api.MaxBlocks), move(5000, 6000, 0)},
		{"Move to the deepest place", chains(20, 20), move(21, 20, 0)},
		{"Move of the deepest block", chain(api.MaxDeep), move(api.MaxDeep, api.MaxDeep-1, 0)},
		{"SetProp of the last one", withProps(api.MaxProps - 1), set(1, "a", num(1))},
		{"SetProp of one of all", withProps(api.MaxProps), set(1, "p29", num(1))},
		{"SetProp of none", withProps(api.MaxProps), set(1, "a", api.Value{})},
	} {
		got, bad := tree.Apply(c.base, c.o)
		if bad != api.OK || tree.Check(got) != api.OK {
			t.Errorf("%s: %d, %d", c.name, bad, tree.Check(got))
		}
	}
}

// wrongOps are operations that cannot be done, each with its error. The later
// errors come second to it.
func wrongOps() []struct {
	name string
	base []api.Block
	o    tree.Op
	bad  api.Errno
} {
	long := strings.Repeat("a", api.MaxString+1)
	full := changed(example(), func(l []api.Block) { l[1].Props = props(api.MaxProps) })
	fullBelow := widen(widen(wide(tree.MaxKids), 0, 900, 1), 900, 901, 1)
	bushy := widen(widen(widen(chains(37, 1), 38, 39, 3), 40, 42, 1), 38, 43, 1) // 38 has three below one another, in the middle
	return []struct {
		name string
		base []api.Block
		o    tree.Op
		bad  api.Errno
	}{
		{"no kind", example(), tree.Op{}, api.ErrKind},
		{"kind below", example(), tree.Op{Kind: -1, Id: 77, From: 1}, api.ErrKind},
		{"kind above", example(), tree.Op{Kind: 6, Id: 2}, api.ErrKind},
		{"kind far above", example(), tree.Op{Kind: math.MaxInt}, api.ErrKind},

		{"Insert: id 0", example(), insert(0, 77, 0, ""), api.ErrRange},
		{"Insert: id below 0", example(), insert(-4, 1, 0, ""), api.ErrRange},
		{"Insert: id too great", example(), insert(api.MaxId+1, 1, 0, ""), api.ErrRange},
		{"Insert: id there", example(), insert(3, 77, 0, ""), api.ErrTwice},
		{"Insert: no parent", example(), insert(4, 77, -1, ""), api.ErrNone},
		{"Insert: itself the parent", example(), insert(4, 4, 0, ""), api.ErrNone},
		{"Insert: no parent below 0", example(), insert(4, -1, 0, ""), api.ErrNone},
		{"Insert: at below 0", example(), insert(4, 1, -1, "\n"), api.ErrRange},
		{"Insert: at too great", example(), insert(4, 1, 3, "\n"), api.ErrRange},
		{"Insert: at far too great", example(), insert(4, 1, math.MaxInt, ""), api.ErrRange},
		{"Insert: wrong byte, full", wide(tree.MaxKids), insert(9999, 1, 0, "a\x7f"), api.ErrByte},
		{"Insert: long text", wide(tree.MaxKids), insert(9999, 1, 0, long), api.ErrLarge},
		{"Insert: too many blocks", crowd(example(), api.MaxBlocks), insert(9999, 3, 0, ""), api.ErrFull},
		{"Insert: too many blocks, too deep", crowd(chain(api.MaxDeep), api.MaxBlocks), insert(9999, api.MaxDeep, 0, ""), api.ErrFull},
		{"Insert: too many kids", wide(tree.MaxKids), insert(9999, 1, 0, ""), api.ErrFull},
		{"Insert: too many kids, too deep", widen(chain(api.MaxDeep-1), api.MaxDeep-1, 100, tree.MaxKids), insert(9999, api.MaxDeep-1, 0, ""), api.ErrFull},
		{"Insert: too deep", chain(api.MaxDeep), insert(9999, api.MaxDeep, 0, ""), api.ErrDeep},

		{"Remove: none", example(), remove(4), api.ErrNone},
		{"Remove: root", example(), remove(0), api.ErrNone},
		{"Remove: root alone", tree.Empty(), remove(0), api.ErrNone},
		{"Remove: kids", example(), remove(1), api.ErrState},

		{"Move: none", example(), move(4, 1, 9), api.ErrNone},
		{"Move: root", example(), move(0, 0, 0), api.ErrNone},
		{"Move: root below a page", example(), move(0, 1, 0), api.ErrNone},
		{"Move: no parent", example(), move(2, 77, 9), api.ErrNone},
		{"Move: below itself", example(), move(1, 1, 9), api.ErrLoop},
		{"Move: below a kid", example(), move(1, 3, -1), api.ErrLoop},
		{"Move: far below itself", zoo(), move(8, 10, 0), api.ErrLoop},
		{"Move: at below 0", example(), move(2, 1, -1), api.ErrRange},
		{"Move: at too great among its siblings", example(), move(2, 1, 2), api.ErrRange},
		{"Move: at too great elsewhere", zoo(), move(2, 8, 3), api.ErrRange},
		{"Move: at too great, full", fullBelow, move(901, 1, tree.MaxKids+1), api.ErrRange},
		{"Move: full", fullBelow, move(901, 1, tree.MaxKids), api.ErrFull},
		{"Move: full, too deep", widen(chains(40, 2), 39, 100, tree.MaxKids-1), move(41, 39, 0), api.ErrFull},
		{"Move: too deep", chains(20, 21), move(21, 20, 0), api.ErrDeep},
		{"Move: too deep the other way", chains(20, 21), move(1, 41, 0), api.ErrDeep},
		{"Move: deepest in the middle", bushy, move(38, 37, 0), api.OK},
		{"Move: too deep in the middle", widen(bushy, 42, 50, 1), move(38, 37, 0), api.ErrDeep},
		{"Move: too deep by one block", chains(40, 1), move(41, 40, 0), api.ErrDeep},

		{"Edit: none", example(), edit(4, 0, 0, "\n"), api.ErrNone},
		{"Edit: root", example(), edit(0, 0, 0, ""), api.ErrNone},
		{"Edit: range", example(), edit(2, 1, 0, "\n"), api.ErrRange},
		{"Edit: range below 0", example(), edit(2, -1, 0, ""), api.ErrRange},
		{"Edit: range too great", example(), edit(2, 0, 2, ""), api.ErrRange},
		{"Edit: byte", example(), edit(2, 0, 1, long+"\n"), api.ErrByte},
		{"Edit: long", example(), edit(2, 1, 1, long[1:]), api.ErrLarge},

		{"SetProp: none", example(), set(4, "A", num(1<<40)), api.ErrNone},
		{"SetProp: root", example(), set(0, "a", num(1)), api.ErrNone},
		{"SetProp: name", full, set(1, "", num(1<<40)), api.ErrName},
		{"SetProp: long name", full, set(1, long[:21], api.Value{}), api.ErrName},
		{"SetProp: value", full, set(1, "a", num(1<<40)), api.ErrRange},
		{"SetProp: None with another field", full, set(1, "p10", api.Value{To: 1}), api.ErrForm},
		{"SetProp: list of a list", full, set(1, "p10", list(list())), api.ErrKind},
		{"SetProp: kind", full, set(1, "p10", api.Value{Kind: 8}), api.ErrKind},
		{"SetProp: full", full, set(1, "a", num(1)), api.ErrFull},
	}
}

func TestApplyErrors(t *testing.T) {
	for _, c := range wrongOps() {
		got, bad := tree.Apply(c.base, c.o)
		if tree.Check(c.base) != api.OK || bad != c.bad || bad != api.OK && len(got) != 0 {
			t.Errorf("%s: %d, want %d (base %d)", c.name, bad, c.bad, tree.Check(c.base))
		}
	}
}

// Each field that a kind does not use, with an id that is not there.
func TestUnusedFields(t *testing.T) {
	fields := map[string]func(o *tree.Op){
		"Parent": func(o *tree.Op) { o.Parent = 1 }, "At": func(o *tree.Op) { o.At = -1 }, "From": func(o *tree.Op) { o.From = 1 }, "To": func(o *tree.Op) { o.To = -1 },
		"Text": func(o *tree.Op) { o.Text = "\n" }, "Name": func(o *tree.Op) { o.Name = "A" },
		"Value Kind": func(o *tree.Op) { o.Value.Kind = api.List }, "Value Int": func(o *tree.Op) { o.Value.Int = 1 }, "Value To": func(o *tree.Op) { o.Value.To = 1 },
		"Value Text": func(o *tree.Op) { o.Value.Text = "a" }, "Value Items": func(o *tree.Op) { o.Value.Items = []api.Value{{}} },
	}
	used := map[int][]string{
		tree.Insert: {"Parent", "At", "Text"}, tree.Remove: {}, tree.Move: {"Parent", "At"}, tree.Edit: {"From", "To", "Text"},
		tree.SetProp: {"Name", "Value Kind", "Value Int", "Value To", "Value Text", "Value Items"},
	}
	for kind, names := range used {
		for name, change := range fields {
			o := tree.Op{Kind: kind, Id: 77}
			change(&o)
			_, bad := tree.Apply(zoo(), o)
			if (bad == api.ErrForm) == slices.Contains(names, name) {
				t.Errorf("kind %d, %s: %d", kind, name, bad)
			}
		}
	}
}

func TestInverse(t *testing.T) {
	for _, c := range []struct {
		name    string
		base    []api.Block
		o, want tree.Op
	}{
		{"Insert", zoo(), insert(11, 2, 1, "x"), remove(11)},
		{"Insert into a gap", base("2 a", "9 b"), insert(5, 9, 0, ""), remove(5)},
		{"Remove", zoo(), remove(6), insert(6, 8, 0, "owl")},
		{"Remove in the middle", zoo(), remove(3), insert(3, 0, 1, "dogs")},
		{"Move elsewhere", zoo(), move(1, 5, 0), move(1, 8, 1)},
		{"Move on", zoo(), move(5, 0, 2), move(5, 0, 0)},
		{"Move back", zoo(), move(8, 0, 0), move(8, 0, 2)},
		{"Move to where it is", zoo(), move(3, 0, 1), move(3, 0, 1)},
		{"Edit", zoo(), edit(9, 1, 3, "lu"), edit(9, 1, 3, "re")},
		{"Edit of the example", base("2 b"), edit(2, 0, 1, ""), edit(2, 0, 0, "b")},
		{"longer Edit", zoo(), edit(9, 4, 4, "ish"), edit(9, 4, 7, "")},
		{"other value", zoo(), set(4, "b", str("x")), set(4, "b", num(2))},
		{"without it", zoo(), set(4, "b", api.Value{}), set(4, "b", num(2))},
		{"new property", zoo(), set(4, "c", num(1)), set(4, "c", api.Value{})},
		{"without one that is not there", zoo(), set(4, "c", api.Value{}), set(4, "c", api.Value{})},
		{"list", changed(zoo(), func(l []api.Block) { l[4].Props = []api.Prop{pr("a", list(num(1), str("b")))} }), set(4, "a", num(1)), set(4, "a", list(num(1), str("b")))},
	} {
		got, bad := tree.Inverse(c.base, c.o)
		want(t, c.name, got, c.want, bad, api.OK)
		if back := after(c.base, c.o, got); !tree.Same(back, c.base) {
			t.Errorf("%s: %v", c.name, back)
		}
	}
}

func TestInverseErrors(t *testing.T) {
	for _, c := range wrongOps() {
		if c.bad == api.OK {
			continue
		}
		got, bad := tree.Inverse(c.base, c.o)
		want(t, c.name, got, tree.Op{}, bad, c.bad)
	}
	got, bad := tree.Inverse(zoo(), remove(4))
	want(t, "Remove with properties", got, tree.Op{}, bad, api.ErrState)
	got, bad = tree.Inverse(zoo(), tree.Op{Kind: tree.Remove, Id: 4, At: 1})
	want(t, "Remove with properties, wrong", got, tree.Op{}, bad, api.ErrForm)
}

func TestAll(t *testing.T) {
	ops := []tree.Op{insert(1, 0, 0, "A"), insert(2, 1, 0, "b"), insert(3, 1, 1, "c"), move(3, 2, 0), set(2, "n", num(2)), edit(2, 1, 1, "B"), remove(3)}
	for count, want := range [][]api.Block{
		tree.Empty(), base("1 A"), base("1 A", "  2 b"), example(), base("1 A", "  2 b", "    3 c"),
		base("1 A", "  2 b n=2", "    3 c"), base("1 A", "  2 bB n=2", "    3 c"), base("1 A", "  2 bB n=2"),
	} {
		got, at, bad := tree.All(tree.Empty(), ops[:count])
		if !tree.Same(got, want) || at != 0 || bad != api.OK {
			t.Error(count, got, at, bad)
		}
	}
	for i := range ops {
		wrong := append(append([]tree.Op{}, ops[:i]...), insert(9, 88, 0, ""), tree.Op{Kind: 7})
		got, at, bad := tree.All(tree.Empty(), wrong)
		if len(got) != 0 || at != i || bad != api.ErrNone {
			t.Error(i, got, at, bad)
		}
	}
	if got, at, bad := tree.All(nil, []tree.Op{insert(1, 0, 0, ""), {}}); len(got) != 0 || at != 0 || bad != api.ErrForm {
		t.Error(got, at, bad)
	}
}

// Operations may be more than a history has, and blocks may come and go.
func TestAllOfManyOps(t *testing.T) {
	var ops []tree.Op
	for range 2 * tree.MaxOps {
		ops = append(ops, insert(1, 0, 0, "x"), remove(1))
	}
	full := crowd(tree.Empty(), api.MaxBlocks-1)
	got, at, bad := tree.All(full, ops)
	if !tree.Same(got, full) || at != 0 || bad != api.OK {
		t.Error(at, bad)
	}
}
