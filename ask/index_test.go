package ask_test

import (
	"testing"

	"florilegium/api"
	"florilegium/ask"
	"florilegium/tree"
)

// P5.6, P5.7

// shorthand for operations
func insert(id, parent, at int, text string) tree.Op {
	return tree.Op{Kind: tree.Insert, Id: id, Parent: parent, At: at, Text: text}
}
func remove(id int) tree.Op { return tree.Op{Kind: tree.Remove, Id: id} }
func move(id, parent, at int) tree.Op {
	return tree.Op{Kind: tree.Move, Id: id, Parent: parent, At: at}
}
func edit(id, from, to int, text string) tree.Op {
	return tree.Op{Kind: tree.Edit, Id: id, From: from, To: to, Text: text}
}
func set(id int, name string, v api.Value) tree.Op {
	return tree.Op{Kind: tree.SetProp, Id: id, Name: name, Value: v}
}

func wantPlan(t *testing.T, x *ask.Index, c, lead string, count int) {
	t.Helper()
	got, bad := x.Plan(cond(c))
	want(t, c, got, ask.Plan{Lead: lead, Count: count}, bad, api.OK)
}

func TestPlan(t *testing.T) {
	x := must(ask.NewIndex(example()))
	wantPlan(t, x, `all(has(n), links "a")`, `links "a"`, 1)
	x = must(ask.NewIndex(zoo()))
	for c, wanted := range map[string]ask.Plan{
		// What can lead, alone and within an And.
		`links "big  Dogs"`: {`links "big  Dogs"`, 2}, `all(links "dogs")`: {`links "dogs"`, 1}, `tag "Pet"`: {`tag "Pet"`, 2}, `all(tag "pet_")`: {`tag "pet_"`, 1},
		`tag "a"`: {`tag "a"`, 1}, `tag "a//b"`: {`tag "a//b"`, 1}, `tag "pe"`: {`tag "pe"`, 0}, `page "big dogs"`: {`page "big dogs"`, 7},
		`all(page "cats")`: {`page "cats"`, 0}, `has(n)`: {`has(n)`, 5}, `all(has(d))`: {`has(d)`, 2}, `.n = 5`: {`.n = 5`, 2}, `all(.n = "5")`: {`.n = "5"`, 1}, `.n = 7`: {`.n = 7`, 0}, `.l = []`: {`.l = []`, 1}, `.x = []`: {`.x = []`, 0},
		// What cannot.
		`all()`: {"", 10}, `any()`: {"", 10}, `any(has(n))`: {"", 10}, `not(has(x))`: {"", 10}, `not(not(has(x)))`: {"", 10}, `says "a"`: {"", 10}, `is-page`: {"", 10}, `deep 9`: {"", 10}, `under 7`: {"", 10}, `.n < 5`: {"", 10}, `.n > 5`: {"", 10},
		`parent(has(n))`: {"", 10}, `kid(has(n))`: {"", 10}, `below(has(n))`: {"", 10}, `all(any(has(n)), parent(all(has(n))), says "a", any(has(n)))`: {"", 10}, `all(all(), all(all()))`: {"", 10},
		// The fewest blocks, of several the first one, however And is nested.
		`all(has(n), has(d), has(l))`: {`has(d)`, 2}, `all(is-page, has(n), says "a", has(d))`: {`has(d)`, 2}, `all(has(l), has(d), tag "pet")`: {`has(d)`, 2}, `all(tag "pet", .n = 5, has(d))`: {`tag "pet"`, 2},
		`all(.n = 5, tag "pet")`: {`.n = 5`, 2}, `all(all(has(n), .n = 5), tag "pet")`: {`.n = 5`, 2}, `all(has(n), all(is-page, all(has(d), all())), tag "pet")`: {`has(d)`, 2}, `all(has(n), all(tag "pet"), all(all(has(d))))`: {`tag "pet"`, 2},
		`all(has(n), any(has(x)), tag "Pet", not(has(x)))`: {`tag "Pet"`, 2}, `all(tag "pet", tag "PET")`: {`tag "pet"`, 2}, `all(tag "PET", tag "pet")`: {`tag "PET"`, 2}, `all(has(x), has(y))`: {`has(x)`, 0},
		`all(page "big dogs", links "big dogs", has(n))`: {`links "big dogs"`, 2}, `all(has(n), page "nowhere")`: {`page "nowhere"`, 0},
	} {
		wantPlan(t, x, c, wanted.Lead, wanted.Count)
		if wanted.Lead != "" {
			found, bad := ask.Find(zoo(), cond(wanted.Lead))
			want(t, c, len(found), wanted.Count, bad, api.OK)
		}
	}
	wantPlan(t, must(ask.NewIndex(tree.Empty())), "all()", "", 0)
	wantPlan(t, must(ask.NewIndex(tree.Empty())), `all(is-page, has(n))`, "has(n)", 0)
}

func TestIndexErrors(t *testing.T) {
	for wanted, l := range map[api.Errno][]api.Block{api.ErrForm: nil, api.ErrRange: {{Id: 1}}, api.ErrLoop: {{}, {Id: 1}}} {
		x, bad := ask.NewIndex(l)
		wantError(t, "NewIndex", bad, wanted)
		live, bad := ask.NewLive(l, ask.Question{})
		wantError(t, "NewLive", bad, wanted)
		if x != nil || live != nil {
			t.Error(x, live)
		}
	}
	x := must(ask.NewIndex(zoo()))
	for _, c := range append(basics(), kids(ask.Not), has("A"), within(ask.And, 40, page()), within(ask.And, 60, page())) {
		wanted := ask.CheckCond(c)
		plan, bad := x.Plan(c)
		wantError(t, "Plan", bad, wanted)
		groups, bad := x.Ask(ask.Question{Where: c})
		wantError(t, "Ask", bad, wanted)
		live, bad := ask.NewLive(zoo(), ask.Question{Where: c})
		wantError(t, "NewLive", bad, wanted)
		if wanted != api.OK && (plan != ask.Plan{} || len(groups) > 0 || live != nil) {
			t.Error(plan, groups, live)
		}
	}
	for wanted, q := range map[api.Errno]ask.Question{
		api.ErrLarge: {Where: page(), Sorts: make([]ask.Sort, 6)}, api.ErrName: {Where: page(), Group: "A"},
		api.ErrTwice: {Where: page(), Sorts: sorts("a", "a")}, api.ErrRange: {Where: page(), Most: -1},
	} {
		_, bad := x.Ask(q)
		wantError(t, "Ask", bad, wanted)
		_, bad = ask.NewLive(zoo(), q)
		wantError(t, "NewLive", bad, wanted)
	}
}

// wrongOps has operations that cannot be done in the zoo.
func wrongOps() map[api.Errno]tree.Op {
	return map[api.Errno]tree.Op{
		api.ErrKind: {Kind: 6}, api.ErrForm: {Kind: tree.Remove, Id: 7, At: 1}, api.ErrTwice: insert(7, 0, 0, "x"), api.ErrState: remove(9),
		api.ErrNone: edit(77, 0, 0, "x"), api.ErrLoop: move(9, 12, 0), api.ErrRange: edit(7, 0, 100, ""), api.ErrByte: edit(7, 0, 0, "\n"), api.ErrName: set(7, "A", num(1)),
	}
}

func TestIndexGoesAlong(t *testing.T) {
	x := must(ask.NewIndex(example()))
	ops := []tree.Op{
		insert(4, 0, 1, "B"), insert(5, 4, 0, "[[a]] #x"), insert(6, 1, 1, ""), set(6, "n", num(2)), edit(2, 0, 1, "[[A]]"), move(3, 5, 0),
		set(3, "n", num(2)), set(2, "n", api.Value{}), edit(1, 0, 1, "b"), move(5, 0, 0), edit(2, 0, 5, ""), move(1, 4, 0), remove(6), edit(3, 0, 7, "#x/y"), move(3, 4, 0), remove(5),
	}
	l := example()
	for i, o := range ops {
		wantError(t, "Apply", x.Apply(o), api.OK)
		l = must(tree.Apply(l, o))
		want(t, "Base", x.Base(), l, 0, 0)
		for _, s := range []string{`links "a"`, `tag "x"`, `tag "x/y"`, `page "a"`, `page "b"`, `has(n)`, `.n = 2`, `.n = 1`} {
			found := must(ask.Find(l, cond(s)))
			groups, bad := x.Ask(question("where " + s))
			want(t, s, groups, []ask.Group{group(api.Value{}, found...)}, bad, api.OK)
			wantPlan(t, x, s, s, len(found))
		}
		wantPlan(t, x, "deep 2", "", len(l)-1)
		if t.Failed() {
			t.Fatal(i, o)
		}
	}
}

// An operation that cannot be done changes nothing.
func TestWrongOperations(t *testing.T) {
	q := question("where all()", "sort n up", "group l")
	x, live := must(ask.NewIndex(zoo())), must(ask.NewLive(zoo(), q))
	before := live.Groups()
	for wanted, o := range wrongOps() {
		wantError(t, "Apply", x.Apply(o), wanted)
		changed, bad := live.Apply(o)
		want(t, "Apply", changed, false, bad, wanted)
		want(t, "Base", x.Base(), zoo(), 0, 0)
		want(t, "Groups", live.Groups(), before, 0, 0)
		groups, bad := x.Ask(q)
		want(t, "Ask", groups, before, bad, api.OK)
		wantPlan(t, x, `has(n)`, `has(n)`, 5)
	}
}

func TestLive(t *testing.T) {
	none := api.Value{}
	live := must(ask.NewLive(example(), question("where all(has(n), not(says \"no\"))", "sort n up", "group m", "most 2")))
	want(t, "Groups", live.Groups(), []ask.Group{group(none, 3, 2)}, 0, 0)
	for i, s := range []struct {
		o       tree.Op
		changed bool
		groups  []ask.Group
	}{
		{insert(4, 0, 0, "c"), false, []ask.Group{group(none, 3, 2)}},
		{set(4, "n", num(3)), false, []ask.Group{group(none, 3, 2)}}, // the third one
		{set(3, "n", num(0)), false, []ask.Group{group(none, 3, 2)}},
		{set(3, "n", num(5)), true, []ask.Group{group(none, 2, 4)}},
		{set(4, "n", num(2)), true, []ask.Group{group(none, 4, 2)}}, // as many as 2, but before it
		{move(4, 0, 1), true, []ask.Group{group(none, 2, 4)}},
		{set(2, "m", num(1)), true, []ask.Group{group(num(1), 2), group(none, 4, 3)}},
		{set(2, "m", str("1")), true, []ask.Group{group(str("1"), 2), group(none, 4, 3)}}, // the same ids
		{set(2, "m", str("1")), false, []ask.Group{group(str("1"), 2), group(none, 4, 3)}},
		{set(3, "m", str("0")), true, []ask.Group{group(str("0"), 3), group(str("1"), 2), group(none, 4)}},
		{edit(2, 0, 0, "no, "), true, []ask.Group{group(str("0"), 3), group(none, 4)}},
		{edit(2, 0, 4, "yes, "), true, []ask.Group{group(str("0"), 3), group(str("1"), 2), group(none, 4)}},
		{edit(1, 0, 1, "no"), false, []ask.Group{group(str("0"), 3), group(str("1"), 2), group(none, 4)}},
		{remove(4), true, []ask.Group{group(str("0"), 3), group(str("1"), 2)}},
		{set(3, "n", none), true, []ask.Group{group(str("1"), 2)}},
		{remove(2), true, nil},
		{remove(3), false, nil},
	} {
		changed, bad := live.Apply(s.o)
		want(t, "Apply", changed, s.changed, bad, api.OK)
		want(t, "Groups", live.Groups(), s.groups, 0, 0)
		if t.Failed() {
			t.Fatal(i, s)
		}
	}
}
