package tree_test

import (
	"math"
	"slices"
	"strings"
	"testing"

	"florilegium/api"
	"florilegium/tree"
)

// P3.5

func TestOutlineText(t *testing.T) {
	odd := changed(example(), func(l []api.Block) { l[1].Text, l[2].Text, l[3].Text = "", "  - x", "\xff " })
	for _, c := range []struct {
		base []api.Block
		id   int
		want string
		bad  api.Errno
	}{
		{zoo(), 0, "- cats\n  - tom\n    - grey\n    - old\n  - kit\n- dogs\n- birds\n  - owl\n  - tit\n    - blue\n", api.OK},
		{zoo(), 5, "- tom\n  - grey\n  - old\n- kit\n", api.OK},
		{zoo(), 1, "- blue\n", api.OK},
		{zoo(), 3, "", api.OK},
		{tree.Empty(), 0, "", api.OK},
		{odd, 0, "- \n  -   - x\n  - \xff \n", api.OK},
		{zoo(), 11, "", api.ErrNone},
		{zoo(), -1, "", api.ErrNone},
	} {
		got, bad := tree.OutlineText(c.base, c.id)
		want(t, "OutlineText", got, c.want, bad, c.bad)
	}
	deep := must(tree.OutlineText(chain(api.MaxDeep), 0))
	if !strings.HasSuffix(deep, "\n"+strings.Repeat(" ", 78)+"- \n") || len(deep) != 40*3+39*40 {
		t.Errorf("%q", deep)
	}
	// more than ReadOutline reads
	long := changed(crowd(tree.Empty(), api.MaxBlocks), func(l []api.Block) {
		for i := range l[1:] {
			l[i+1].Text = strings.Repeat("x", api.MaxString)
		}
	})
	if got, bad := tree.OutlineText(long, 0); bad != api.OK || len(got) < 1999*2003 {
		t.Error(len(got), bad)
	}
}

func TestReadOutline(t *testing.T) {
	long := strings.Repeat("a", api.MaxString)
	for s, lines := range map[string][]tree.Line{
		"":                                       nil,
		"- \n":                                   {{}},
		"- a\n":                                  {{Text: "a"}},
		"- a\n  - b\n    - c\n  - d\n- e\n":      {{Text: "a"}, {Depth: 1, Text: "b"}, {Depth: 2, Text: "c"}, {Depth: 1, Text: "d"}, {Text: "e"}},
		"- a\n  - b\n    - c\n- e\n  - f\n":      {{Text: "a"}, {Depth: 1, Text: "b"}, {Depth: 2, Text: "c"}, {Text: "e"}, {Depth: 1, Text: "f"}},
		"- - x\n  -  y \n":                       {{Text: "- x"}, {Depth: 1, Text: " y "}},
		"-   - x\n- \xff-\n":                     {{Text: "  - x"}, {Text: "\xff-"}},
		"- " + long + "\n":                       {{Text: long}},
		strings.Repeat("- \n", api.MaxBlocks):    slices.Repeat([]tree.Line{{}}, api.MaxBlocks),
		"- a\n" + strings.Repeat("  - b\n", 100): append([]tree.Line{{Text: "a"}}, slices.Repeat([]tree.Line{{Depth: 1, Text: "b"}}, 100)...),
	} {
		got, bad := tree.ReadOutline(s)
		want(t, s, got, lines, bad, api.OK)
	}
	// deeper than a base can be
	var s strings.Builder
	for depth := range 300 {
		s.WriteString(strings.Repeat("  ", depth) + "- x\n")
	}
	got, bad := tree.ReadOutline(s.String())
	if bad != api.OK || len(got) != 300 || got[299] != (tree.Line{Depth: 299, Text: "x"}) {
		t.Error(len(got), bad)
	}
	// as many bytes as can be
	most := strings.Repeat("- "+strings.Repeat("x", 1997)+"\n", api.MaxBody/2000)
	if got, bad := tree.ReadOutline(most); bad != api.OK || len(got) != api.MaxBody/2000 {
		t.Error(len(got), bad)
	}
}

func TestReadOutlineErrors(t *testing.T) {
	long := strings.Repeat("a", api.MaxString+1)
	for _, c := range []struct {
		s   string
		bad api.Errno
	}{
		{strings.Repeat("x", api.MaxBody+1), api.ErrLarge},
		{strings.Repeat("x", api.MaxBody), api.ErrSyntax},
		{"\n", api.ErrSyntax}, {"-\n", api.ErrSyntax}, {" \n", api.ErrSyntax}, {"a\n", api.ErrSyntax}, {"* a\n", api.ErrSyntax}, {"-a\n", api.ErrSyntax}, {"-\ta\n", api.ErrSyntax}, {"\t- a\n", api.ErrSyntax}, {" - a\n", api.ErrSyntax}, {"-- a\n", api.ErrSyntax},
		{"- a", api.ErrSyntax}, {"- a\n- b", api.ErrSyntax}, {"- a\n\n", api.ErrSyntax}, {"- a\n\n- b\n", api.ErrSyntax}, {"- a\n ", api.ErrSyntax}, {"- a\n   - b\n", api.ErrSyntax},
		{"  - a\n", api.ErrSyntax}, {"- a\n    - b\n", api.ErrSyntax}, {"- a\n  - b\n      - c\n", api.ErrSyntax}, {"- a\n  - b\n- c\n    - d\n", api.ErrSyntax},
		{"- \x01\n- b", api.ErrSyntax}, {"- \x01\n- " + long + "\nb\n", api.ErrSyntax},
		{"- \x01\n- " + long + "\n", api.ErrByte}, {"- a\x7f\n", api.ErrByte}, {"- a\r\n", api.ErrByte}, {"- \t\n", api.ErrByte},
		{"- " + long + "\n- \x01\n", api.ErrLarge},
		{strings.Repeat("- \n", api.MaxBlocks+1), api.ErrLarge},
		{strings.Repeat("- \n", api.MaxBlocks+1) + "- \x01\n", api.ErrByte},
		{strings.Repeat("- \n", api.MaxBlocks+1) + "x\n", api.ErrSyntax},
	} {
		got, bad := tree.ReadOutline(c.s)
		want(t, c.s[:min(len(c.s), 40)], got, nil, bad, c.bad)
	}
}

func TestGraft(t *testing.T) {
	lines := must(tree.ReadOutline("- A\n  - b\n    - c\n  - d\n- E\n  - f\n"))
	for _, c := range []struct {
		name       string
		base       []api.Block
		parent, at int
		lines      []tree.Line
		ops        []tree.Op
		made       []api.Block
	}{
		{
			"as pages", base("7 x", "3 y"), 0, 1, lines,
			[]tree.Op{insert(8, 0, 1, "A"), insert(9, 8, 0, "b"), insert(10, 9, 0, "c"), insert(11, 8, 1, "d"), insert(12, 0, 2, "E"), insert(13, 12, 0, "f")},
			base("7 x", "8 A", "  9 b", "    10 c", "  11 d", "12 E", "  13 f", "3 y"),
		},
		{"below a block", example(), 1, 2, lines[:2], []tree.Op{insert(4, 1, 2, "A"), insert(5, 4, 0, "b")}, base("1 A", "  2 b", "  3 c", "  4 A", "    5 b")},
		{"before all", example(), 1, 0, lines[4:5], []tree.Op{insert(4, 1, 0, "E")}, base("1 A", "  4 E", "  2 b", "  3 c")},
		{"nothing", example(), 2, 0, nil, nil, example()},
		{"nothing, without ids", base("1000000 a"), 0, 0, nil, nil, base("1000000 a")},
		{"last id", base("999999 a"), 0, 1, lines[:1], []tree.Op{insert(1000000, 0, 1, "A")}, base("999999 a", "1000000 A")},
	} {
		got, bad := tree.Graft(c.base, c.parent, c.at, c.lines)
		wantOps(t, c.name, c.base, got, bad, c.ops, c.made)
	}
}

func TestGraftErrors(t *testing.T) {
	deep := func(depths ...int) []tree.Line {
		var l []tree.Line
		for _, depth := range depths {
			l = append(l, tree.Line{Depth: depth, Text: "\n"})
		}
		return l
	}
	many := func(count int) []tree.Line { return slices.Repeat([]tree.Line{{Text: "a"}}, count) }
	nested := func(count int) []tree.Line {
		var l []tree.Line
		for depth := range count {
			l = append(l, tree.Line{Depth: depth})
		}
		return l
	}
	for _, c := range []struct {
		name       string
		base       []api.Block
		parent, at int
		lines      []tree.Line
		bad        api.Errno
	}{
		{"no parent", example(), 4, -1, deep(1), api.ErrNone},
		{"parent below 0", example(), -1, 0, nil, api.ErrNone},
		{"at below 0", example(), 1, -1, deep(1), api.ErrRange},
		{"at too great", example(), 1, 3, deep(1), api.ErrRange},
		{"at too great, no line", example(), 2, 1, nil, api.ErrRange},
		{"first line too deep", example(), 1, 0, deep(1), api.ErrForm},
		{"first line below 0", example(), 1, 0, deep(-1), api.ErrForm},
		{"too deep for the one before", example(), 1, 0, deep(0, 1, 3), api.ErrForm},
		{"too deep for the one before, not for another", example(), 1, 0, deep(0, 1, 2, 0, 2), api.ErrForm},
		{"depth below 0", example(), 1, 0, deep(0, 1, -1), api.ErrForm},
		{"depth far off", example(), 1, 0, deep(0, math.MaxInt), api.ErrForm},
		{"depth far below", example(), 1, 0, deep(0, math.MinInt), api.ErrForm},
		{"wrong text", example(), 1, 0, deep(0), api.ErrByte},
		{"long text", example(), 1, 0, []tree.Line{{Text: strings.Repeat("a", api.MaxString+1)}}, api.ErrLarge},
		{"no id", base("1000000 a"), 0, 0, deep(0), api.ErrRange},
		{"no more id", base("999999 a"), 0, 0, many(2), api.ErrRange},
		{"too many kids", wide(499), 1, 7, many(2), api.ErrFull},
		{"as many kids as can be", wide(499), 1, 7, many(1), api.OK},
		{"too many blocks", crowd(example(), api.MaxBlocks-1), 2, 0, many(2), api.ErrFull},
		{"as many blocks as can be", crowd(example(), api.MaxBlocks-1), 2, 0, many(1), api.OK},
		{"too deep", example(), 2, 0, nested(39), api.ErrDeep},
		{"as deep as can be", example(), 2, 0, nested(38), api.OK},
		{"far too many lines", example(), 2, 0, many(100_000), api.ErrFull},
		{"far too deep", tree.Empty(), 0, 0, nested(100_000), api.ErrDeep},
	} {
		got, bad := tree.Graft(c.base, c.parent, c.at, c.lines)
		if bad != c.bad || bad != api.OK && len(got) != 0 {
			t.Errorf("Graft, %s: %d operations, %d, want %d", c.name, len(got), bad, c.bad)
		}
	}
}

// Graft of ReadOutline of OutlineText has the same outline.
func TestGraftOfAnOutline(t *testing.T) {
	var d dice
	for range 300 {
		l := d.base(30)
		from, to := l[d.next(len(l))].Id, l[d.next(len(l))].Id
		outline := must(tree.OutlineText(l, from))
		lines := must(tree.ReadOutline(outline))
		got, bad := tree.Graft(tree.Empty(), 0, 0, lines)
		if bad != api.OK || must(tree.OutlineText(after(tree.Empty(), got...), 0)) != outline {
			t.Fatal(outline, got, bad)
		}
		kids := must(tree.OutlineText(l, to))
		got, bad = tree.Graft(l, to, 0, lines)
		if bad != api.OK || must(tree.OutlineText(after(l, got...), to)) != outline+kids {
			t.Fatal(outline, kids, got, bad)
		}
	}
}
