package tree_test

import (
	"slices"
	"strings"
	"testing"

	"florilegium/api"
	"florilegium/tree"
)

// P3.1

func TestEmpty(t *testing.T) {
	if got := tree.Empty(); !equal(got, []api.Block{{}}) || tree.Check(got) != api.OK {
		t.Error(got)
	}
}

func TestCheckOfRightBases(t *testing.T) {
	most := base("999999 a", "  1000000 b")
	most[1].Text, most[1].Props = strings.Repeat("é", api.MaxString/2), props(api.MaxProps)
	for name, l := range map[string][]api.Block{
		"empty": tree.Empty(), "example": example(), "zoo": zoo(), "greatest ids, text and properties": most,
		"deep": chain(api.MaxDeep), "kids": wide(tree.MaxKids), "pages": widen(tree.Empty(), 0, 1, tree.MaxKids), "blocks": crowd(tree.Empty(), api.MaxBlocks),
	} {
		if got := tree.Check(l); got != api.OK {
			t.Errorf("%s: %d", name, got)
		}
	}
}

// wrongBases are bases that may not be, each with its error. The later errors of
// an element, and those of later elements, come second to it.
func wrongBases() []struct {
	name string
	base []api.Block
	bad  api.Errno
} {
	long := strings.Repeat("a", api.MaxString+1)
	ring := []api.Block{{Kids: []int{3}}, {Id: 1, Parent: 2, Kids: []int{2}}, {Id: 2, Parent: 1, Kids: []int{1}}, {Id: 3}}
	own := []api.Block{{}, {Id: 1, Parent: 1, Kids: []int{1}}}
	at := func(i int, change func(b *api.Block)) []api.Block {
		return changed(zoo(), func(l []api.Block) { change(&l[i]) })
	}
	return []struct {
		name string
		base []api.Block
		bad  api.Errno
	}{
		{"no block", nil, api.ErrForm},
		{"too many blocks", crowd(tree.Empty(), api.MaxBlocks+1), api.ErrLarge},
		{"too many blocks, wrong ones", make([]api.Block, api.MaxBlocks+1), api.ErrLarge},
		{"first id above 0", at(0, func(b *api.Block) { b.Id = 1 }), api.ErrRange},
		{"first id below 0, with a text", at(0, func(b *api.Block) { b.Id, b.Text = -1, "a" }), api.ErrRange},
		{"no root", zoo()[1:], api.ErrRange},
		{"id 0 again", at(1, func(b *api.Block) { b.Id = 0 }), api.ErrRange},
		{"id below 0", at(4, func(b *api.Block) { b.Id = -4 }), api.ErrRange},
		{"id too great", at(10, func(b *api.Block) { b.Id = api.MaxId + 1 }), api.ErrRange},
		{"id twice, with a wrong text", at(4, func(b *api.Block) { b.Id, b.Text = 3, "\n" }), api.ErrOrder},
		{"id below the one before", at(4, func(b *api.Block) { b.Id = 1 }), api.ErrOrder},
		{"root with a text", at(0, func(b *api.Block) { b.Text = "\n" }), api.ErrForm},
		{"root with properties", at(0, func(b *api.Block) { b.Props = []api.Prop{pr("A", num(1))} }), api.ErrForm},
		{"root with a parent, and kids that are not there", at(0, func(b *api.Block) { b.Parent, b.Kids = 1, []int{77} }), api.ErrForm},
		{"root with too many kids", at(0, func(b *api.Block) { b.Kids = make([]int, tree.MaxKids+1) }), api.ErrLarge},
		{"byte below 32, too many kids", at(3, func(b *api.Block) { b.Text, b.Kids = "a\x1f", make([]int, tree.MaxKids+1) }), api.ErrByte},
		{"byte 127, wrong properties", at(3, func(b *api.Block) { b.Text, b.Props = "\x7f", []api.Prop{pr("A", num(1))} }), api.ErrByte},
		{"text too long", at(3, func(b *api.Block) { b.Text = long + "\n" }), api.ErrLarge},
		{"too many kids, wrong properties", changed(wide(tree.MaxKids+1), func(l []api.Block) { l[1].Props = []api.Prop{pr("A", num(1))} }), api.ErrLarge},
		{"wrong name", at(3, func(b *api.Block) { b.Props = []api.Prop{pr("A", num(1))} }), api.ErrName},
		{"names not in order", at(3, func(b *api.Block) { b.Props = []api.Prop{pr("b", num(1)), pr("a", num(1))} }), api.ErrOrder},
		{"property None", at(3, func(b *api.Block) { b.Props = []api.Prop{pr("a", api.Value{})} }), api.ErrKind},
		{"wrong value, and a wrong id after it", changed(zoo(), func(l []api.Block) { l[3].Props, l[4].Id = []api.Prop{pr("a", num(1<<40))}, 0 }), api.ErrRange},
		{"too many properties", at(3, func(b *api.Block) { b.Props = props(api.MaxProps + 1) }), api.ErrLarge},
		{"wrong text of the last block, wrong kids of the first one", changed(zoo(), func(l []api.Block) { l[0].Kids, l[10].Text = []int{77}, "\n" }), api.ErrByte},
		{"kid that is not there", at(4, func(b *api.Block) { b.Kids = []int{77} }), api.ErrNone},
		{"kid that is not there, before one of another block", at(4, func(b *api.Block) { b.Kids = []int{-1, 1} }), api.ErrNone},
		{"kid of another block, before one that is not there", at(4, func(b *api.Block) { b.Kids = []int{1, 77} }), api.ErrForm},
		{"kid of two blocks", at(3, func(b *api.Block) { b.Kids = []int{6} }), api.ErrForm},
		{"root among the root's kids", at(0, func(b *api.Block) { b.Kids = []int{0, 5, 3, 8} }), api.ErrForm},
		{"root among a page's kids", at(3, func(b *api.Block) { b.Kids = []int{0} }), api.ErrForm},
		{"kid with another parent", at(2, func(b *api.Block) { b.Parent = 3 }), api.ErrForm},
		{"kid twice, before one that is not there", at(8, func(b *api.Block) { b.Kids = []int{6, 1, 6, 77} }), api.ErrTwice},
		{"kid twice", at(0, func(b *api.Block) { b.Kids = []int{5, 5, 3, 8} }), api.ErrTwice},
		{"kid that is not there, and one twice in the next block", changed(zoo(), func(l []api.Block) { l[1].Kids, l[2].Kids = []int{77}, []int{9, 9} }), api.ErrNone},
		{"kid twice, and one that is not there in the next block", changed(zoo(), func(l []api.Block) { l[1].Kids, l[2].Kids = []int{10, 10}, []int{77} }), api.ErrTwice},
		{"block that is no kid", at(2, func(b *api.Block) { b.Kids = []int{9} }), api.ErrLoop},
		{"page that is no kid", at(0, func(b *api.Block) { b.Kids = []int{5, 8} }), api.ErrLoop},
		{"block whose parent is not there", changed(example(), func(l []api.Block) { l[1].Kids, l[3].Parent = []int{2}, 77 }), api.ErrLoop},
		{"ring of two", ring, api.ErrLoop},
		{"kid of its own", own, api.ErrLoop},
		{"block that is no kid, and a kid twice", changed(zoo(), func(l []api.Block) { l[0].Kids, l[8].Kids = []int{5, 8}, []int{6, 1, 1} }), api.ErrTwice},
		{"too deep", chain(api.MaxDeep + 1), api.ErrDeep},
		{"much too deep", chain(api.MaxBlocks - 1), api.ErrDeep},
		{"too deep, and then no kid", append(chain(api.MaxDeep+1), api.Block{Id: 90}), api.ErrDeep},
		{"no kid, and then too deep", changed(chain(api.MaxDeep+2), func(l []api.Block) { l[0].Kids, l[1].Kids, l[2].Parent = []int{2}, nil, 0 }), api.ErrLoop},
	}
}

func TestCheckOfWrongBases(t *testing.T) {
	for _, c := range wrongBases() {
		if got := tree.Check(c.base); got != c.bad {
			t.Errorf("%s: %d, want %d", c.name, got, c.bad)
		}
	}
}

// All functions look at the base first: what else they are given is wrong, too.
func TestWrongBasesComeFirst(t *testing.T) {
	for _, c := range wrongBases() {
		l := c.base
		if got := [3]int{len(tree.Pages(l)), len(tree.Order(l)), tree.NextId(l)}; got != [3]int{0, 0, -1} {
			t.Errorf("%s: %v", c.name, got)
		}
		_, _, ofAll := tree.All(l, []tree.Op{{Kind: 9}})
		for name, got := range map[string]api.Errno{
			"Depth": second(tree.Depth(l, -5)), "Path": second(tree.Path(l, -5)), "Below": second(tree.Below(l, -5)), "PageOf": second(tree.PageOf(l, 0)),
			"Apply": second(tree.Apply(l, tree.Op{Kind: 9})), "Inverse": second(tree.Inverse(l, tree.Op{Kind: 9})), "All": ofAll,
			"Prune": second(tree.Prune(l, 0)), "Indent": second(tree.Indent(l, 0)), "Outdent": second(tree.Outdent(l, 0)),
			"Split": second(tree.Split(l, 0, -1)), "Join": second(tree.Join(l, 0)),
			"OutlineText": second(tree.OutlineText(l, -5)), "Graft": second(tree.Graft(l, -5, -1, []tree.Line{{Depth: 1}})), "New": second(tree.New(l)),
		} {
			if got != c.bad {
				t.Errorf("%s of %s: %d, want %d", name, c.name, got, c.bad)
			}
		}
	}
}

// P3.2

func TestGet(t *testing.T) {
	got, ok := tree.Get(zoo(), 4)
	if !ok || !equal(got, api.Block{Id: 4, Parent: 2, Text: "old", Props: []api.Prop{pr("a", num(1)), pr("b", num(2))}}) {
		t.Error(got, ok)
	}
	got, ok = tree.Get(zoo(), 0)
	if !ok || !equal(got, api.Block{Kids: []int{5, 3, 8}}) {
		t.Error(got, ok)
	}
	for _, id := range []int{-1, 11, api.MaxId + 1} {
		if got, ok := tree.Get(zoo(), id); ok || !equal(got, api.Block{}) {
			t.Error(id, got, ok)
		}
	}
	wrong := []api.Block{{Id: 7, Text: "\n"}, {Id: -3, Kids: []int{8, 8}}, {Id: 7, Text: "b"}}
	if got, ok := tree.Get(wrong, 7); !ok || !equal(got, wrong[0]) {
		t.Error(got, ok)
	}
	if got, ok := tree.Get(wrong, -3); !ok || !equal(got, wrong[1]) {
		t.Error(got, ok)
	}
	if _, ok := tree.Get(wrong, 0); ok {
		t.Error("no root")
	}
	if _, ok := tree.Get(nil, 0); ok {
		t.Error("no block")
	}
}

func TestWholeBase(t *testing.T) {
	for _, c := range []struct {
		base         []api.Block
		pages, order []int
		next         int
	}{
		{tree.Empty(), nil, nil, 1},
		{example(), []int{1}, []int{1, 2, 3}, 4},
		{zoo(), []int{5, 3, 8}, []int{5, 2, 9, 4, 7, 3, 8, 6, 1, 10}, 11},
		{base("999998 a", "77 b"), []int{999998, 77}, []int{999998, 77}, 999999},
		{base("999999 a"), []int{999999}, []int{999999}, api.MaxId},
		{base("1000000 a"), []int{api.MaxId}, []int{api.MaxId}, -1},
	} {
		if got := tree.Pages(c.base); !slices.Equal(got, c.pages) {
			t.Errorf("Pages(%v) = %v", c.base, got)
		}
		if got := tree.Order(c.base); !slices.Equal(got, c.order) {
			t.Errorf("Order(%v) = %v", c.base, got)
		}
		if got := tree.NextId(c.base); got != c.next {
			t.Errorf("NextId(%v) = %d", c.base, got)
		}
	}
}

func TestOneBlock(t *testing.T) {
	for _, c := range []struct {
		id, depth   int
		path, below []int
	}{
		{0, 0, nil, []int{5, 2, 9, 4, 7, 3, 8, 6, 1, 10}},
		{5, 1, []int{5}, []int{2, 9, 4, 7}},
		{2, 2, []int{5, 2}, []int{9, 4}},
		{4, 3, []int{5, 2, 4}, nil},
		{3, 1, []int{3}, nil},
		{10, 3, []int{8, 1, 10}, nil},
	} {
		depth, bad := tree.Depth(zoo(), c.id)
		want(t, "Depth", depth, c.depth, bad, api.OK)
		path, bad := tree.Path(zoo(), c.id)
		want(t, "Path", path, c.path, bad, api.OK)
		below, bad := tree.Below(zoo(), c.id)
		want(t, "Below", below, c.below, bad, api.OK)
		if c.id != 0 {
			page, bad := tree.PageOf(zoo(), c.id)
			want(t, "PageOf", page, c.path[0], bad, api.OK)
		}
	}
	if got := must(tree.Depth(chain(api.MaxDeep), api.MaxDeep)); got != api.MaxDeep {
		t.Error(got)
	}
}

func TestNoSuchBlock(t *testing.T) {
	for _, id := range []int{-1, 11, api.MaxId, api.MaxId + 1} {
		for name, got := range map[string]api.Errno{
			"Depth": second(tree.Depth(zoo(), id)), "Path": second(tree.Path(zoo(), id)),
			"Below": second(tree.Below(zoo(), id)), "PageOf": second(tree.PageOf(zoo(), id)),
		} {
			if got != api.ErrNone {
				t.Errorf("%s of %d: %d", name, id, got)
			}
		}
	}
	if got := second(tree.PageOf(zoo(), 0)); got != api.ErrNone {
		t.Error("PageOf", got)
	}
}

// P3.3: Same

func TestSame(t *testing.T) {
	nested := func(inner api.Value) []api.Block {
		return []api.Block{{Id: 1, Props: []api.Prop{pr("a", list(num(1), list(num(2), inner)))}}}
	}
	bases := [][]api.Block{
		nil, {{}}, {{}, {}}, {{Id: 1}}, {{Id: -1}}, {{Parent: 1}}, {{Text: "a"}}, {{Text: "b"}}, {{Kids: []int{1}}}, {{Kids: []int{2}}}, {{Kids: []int{1, 2}}},
		{{Props: props(1)}}, {{Props: props(2)}}, {{Props: []api.Prop{pr("b", num(0))}}}, {{Props: []api.Prop{pr("p10", num(1))}}}, {{Id: 1}, {Id: 2}}, {{Id: 2}, {Id: 1}},
		nested(num(3)), nested(num(4)), nested(str("3")), nested(api.Value{Kind: api.Number, Int: 3, To: 1}), nested(api.Value{Kind: api.Number, Int: 3, Text: "a"}),
		nested(list()), nested(list(num(3))), nested(list(num(3), num(3))), nested(list(list())), nested(api.Value{}), example(), zoo(),
	}
	for i, a := range bases {
		for k, b := range bases {
			if got := tree.Same(a, plain(b)); got != (i == k) {
				t.Errorf("Same(%v, %v) = %v", a, b, got)
			}
		}
	}
}
