package tree_test

import (
	"slices"
	"strings"
	"testing"

	"florilegium/api"
	"florilegium/prop"
	"florilegium/text"
	"florilegium/tree"
)

// The tests of this file hold the package against a slow model, and against
// what follows from the promises, on many generated bases and operations.

// A node is a block that has its kids in itself: there are no ids to follow.
type node struct {
	id    int
	text  string
	props []api.Prop
	kids  []*node
}

// grown gives the root of a right base.
func grown(l []api.Block, id int) *node {
	for _, b := range l {
		if b.Id == id {
			n := &node{id: id, text: b.Text, props: b.Props}
			for _, kid := range b.Kids {
				n.kids = append(n.kids, grown(l, kid))
			}
			return n
		}
	}
	panic(id)
}

// flat gives the base of a root.
func (n *node) flat() []api.Block {
	var l []api.Block
	n.each(0, 0, func(n *node, parent, _ int) {
		b := api.Block{Id: n.id, Parent: parent, Text: n.text, Props: n.props}
		for _, kid := range n.kids {
			b.Kids = append(b.Kids, kid.id)
		}
		l = append(l, b)
	})
	slices.SortFunc(l, func(a, b api.Block) int { return a.Id - b.Id })
	return l
}

// each visits a node and all below it, in order, with the parent's id and the depth.
func (n *node) each(parent, depth int, visit func(n *node, parent, depth int)) {
	visit(n, parent, depth)
	for _, kid := range n.kids {
		kid.each(n.id, depth+1, visit)
	}
}

// find gives a node, its parent and its depth; nil: there is none.
func (n *node) find(id int) (found, above *node, depth int) {
	nodes := map[int]*node{}
	n.each(-1, 0, func(n *node, parent, deep int) {
		nodes[n.id] = n
		if n.id == id {
			found, above, depth = n, nodes[parent], deep
		}
	})
	return found, above, depth
}

func (n *node) count() int {
	count := 0
	n.each(0, 0, func(*node, int, int) { count++ })
	return count
}

// deepest gives how deep the deepest node of n is below it.
func (n *node) deepest() int {
	deepest := 0
	n.each(0, 0, func(_ *node, _, depth int) { deepest = max(deepest, depth) })
	return deepest
}

func (n *node) position(id int) int {
	return slices.IndexFunc(n.kids, func(kid *node) bool { return kid.id == id })
}

// modelApply changes a root. Where there is an error the root is no longer of use.
func modelApply(root *node, o tree.Op) api.Errno {
	rest := o
	rest.Kind, rest.Id = 0, 0
	switch o.Kind {
	case tree.Insert:
		rest.Parent, rest.At, rest.Text = 0, 0, ""
	case tree.Remove:
	case tree.Move:
		rest.Parent, rest.At = 0, 0
	case tree.Edit:
		rest.From, rest.To, rest.Text = 0, 0, ""
	case tree.SetProp:
		rest.Name, rest.Value = "", api.Value{}
	default:
		return api.ErrKind
	}
	if !equal(rest, tree.Op{}) {
		return api.ErrForm
	}
	n, above, _ := root.find(o.Id)
	parent, _, depth := root.find(o.Parent)
	if o.Kind == tree.Insert {
		return modelInsert(root, n, parent, depth, o)
	}
	if n == nil || n == root {
		return api.ErrNone
	}
	switch o.Kind {
	case tree.Remove:
		if len(n.kids) > 0 {
			return api.ErrState
		}
		above.kids = slices.DeleteFunc(above.kids, func(kid *node) bool { return kid == n })
		return api.OK
	case tree.Move:
		if parent == nil {
			return api.ErrNone
		}
		if found, _, _ := n.find(o.Parent); found != nil {
			return api.ErrLoop
		}
		above.kids = slices.DeleteFunc(above.kids, func(kid *node) bool { return kid == n })
		return parent.take(n, o.At, depth)
	case tree.Edit:
		changed, bad := text.Apply(n.text, text.Edit{From: o.From, To: o.To, With: o.Text})
		n.text = changed
		return bad
	}
	l, bad := prop.Put(n.props, o.Name, o.Value)
	if bad == api.ErrLarge && len(n.props) == api.MaxProps && prop.CheckValue(o.Value) == api.OK {
		bad = api.ErrFull
	}
	n.props = l
	return bad
}

func modelInsert(root, n, parent *node, depth int, o tree.Op) api.Errno {
	if o.Id < 1 || o.Id > api.MaxId {
		return api.ErrRange
	}
	if n != nil {
		return api.ErrTwice
	}
	if parent == nil {
		return api.ErrNone
	}
	if o.At < 0 || o.At > len(parent.kids) {
		return api.ErrRange
	}
	if bad := text.Check(o.Text); bad != api.OK {
		return bad
	}
	if root.count() == api.MaxBlocks {
		return api.ErrFull
	}
	return parent.take(&node{id: o.Id, text: o.Text}, o.At, depth)
}

// take gives a node at a depth another kid.
func (n *node) take(kid *node, at, depth int) api.Errno {
	if at < 0 || at > len(n.kids) {
		return api.ErrRange
	}
	if len(n.kids) == tree.MaxKids {
		return api.ErrFull
	}
	if depth+1+kid.deepest() > api.MaxDeep {
		return api.ErrDeep
	}
	n.kids = slices.Insert(n.kids, at, kid)
	return api.OK
}

func TestGeneratedBasesAreRight(t *testing.T) {
	var d dice
	deepest := 0
	for range 1000 {
		l := d.base(60)
		if bad := tree.Check(l); bad != api.OK || !tree.Same(grown(l, 0).flat(), l) {
			t.Fatal(l, bad)
		}
		deepest = max(deepest, grown(l, 0).deepest())
	}
	if deepest < 8 {
		t.Error(deepest)
	}
}

func TestQueriesAgainstModel(t *testing.T) {
	var d dice
	for range 500 {
		l := d.base(40)
		root := grown(l, 0)
		ids := func(n *node) []int {
			var ids []int
			n.each(0, 0, func(n *node, _, _ int) { ids = append(ids, n.id) })
			return ids[1:]
		}
		if got := tree.Order(l); !slices.Equal(got, ids(root)) {
			t.Fatal(l, got)
		}
		for id := -1; id < 120; id++ {
			n, above, depth := root.find(id)
			if n == nil {
				continue
			}
			path := []int{}
			for n := n; n != root; _, n, _ = root.find(n.id) {
				path = slices.Insert(path, 0, n.id)
			}
			gotDepth, bad := tree.Depth(l, id)
			want(t, "Depth", gotDepth, depth, bad, api.OK)
			gotBelow, bad := tree.Below(l, id)
			want(t, "Below", gotBelow, ids(n), bad, api.OK)
			gotPath, bad := tree.Path(l, id)
			want(t, "Path", gotPath, path, bad, api.OK)
			if above != nil {
				page, bad := tree.PageOf(l, id)
				want(t, "PageOf", page, path[0], bad, api.OK)
			}
			outline := ""
			n.each(0, -1, func(below *node, _, depth int) {
				if below != n {
					outline += strings.Repeat(" ", 2*depth) + "- " + below.text + "\n"
				}
			})
			got, bad := tree.OutlineText(l, id)
			want(t, "OutlineText", got, outline, bad, api.OK)
		}
	}
}

// Apply, Inverse, and a history beside them, on bases that change on and on.
func TestOpsAgainstModel(t *testing.T) {
	var d dice
	done := map[api.Errno]int{}
	for range 150 {
		first := d.base(25)
		l := first
		h := must(tree.New(l))
		var ops []tree.Op
		for range 40 {
			o := d.op(l)
			root := grown(l, 0)
			wanted := modelApply(root, o)
			got, bad := tree.Apply(l, o)
			done[bad]++
			if bad != wanted || h.Do(o) != wanted {
				t.Fatalf("%v of %v: %d, want %d", o, l, bad, wanted)
			}
			checkInverse(t, l, got, o, bad)
			if bad != api.OK {
				continue
			}
			if !tree.Same(got, root.flat()) || tree.Check(got) != api.OK || !tree.Same(h.Base(), got) {
				t.Fatalf("%v of %v: %v, want %v", o, l, got, root.flat())
			}
			l = got
			ops = append(ops, o)
			if d.next(4) == 0 {
				h.Undo()
				h.Redo()
			}
		}
		wantState(t, "generated", h, first, ops, 0)
	}
	for _, bad := range []api.Errno{api.OK, api.ErrForm, api.ErrRange, api.ErrName, api.ErrTwice, api.ErrNone, api.ErrByte, api.ErrKind, api.ErrState, api.ErrLoop} {
		if done[bad] < 20 {
			t.Errorf("error %d: %d times", bad, done[bad])
		}
	}
}

// checkInverse holds Inverse against what follows: where it has no error, it makes the base again what it was.
func checkInverse(t *testing.T, l, next []api.Block, o tree.Op, bad api.Errno) {
	t.Helper()
	back, badBack := tree.Inverse(l, o)
	if bad == api.OK && o.Kind == tree.Remove {
		if b, _ := tree.Get(l, o.Id); len(b.Props) > 0 {
			bad = api.ErrState
		}
	}
	if badBack != bad {
		t.Fatalf("Inverse(%v, %v): %d, want %d", l, o, badBack, bad)
	}
	if bad != api.OK {
		return
	}
	if was, bad := tree.Apply(next, back); bad != api.OK || !tree.Same(was, l) {
		t.Fatalf("%v after %v: %v, %d, want %v", back, o, was, bad, l)
	}
}

// compounds change a root as the operations of the functions with these names do:
// at a node, which is one of the kids of another one. false: it is ErrState.
func compounds(cut, newId int) map[string]func(root, n, above *node, at int) bool {
	takeAway := func(above *node, at int) { above.kids = slices.Delete(above.kids, at, at+1) }
	return map[string]func(root, n, above *node, at int) bool{
		"Prune": func(_, _, above *node, at int) bool {
			takeAway(above, at)
			return true
		},
		"Indent": func(_, n, above *node, at int) bool {
			if at == 0 {
				return false
			}
			takeAway(above, at)
			above.kids[at-1].kids = append(above.kids[at-1].kids, n)
			return true
		},
		"Outdent": func(root, n, above *node, at int) bool {
			_, top, _ := root.find(above.id)
			if top == nil {
				return false
			}
			takeAway(above, at)
			top.kids = slices.Insert(top.kids, top.position(above.id)+1, n)
			return true
		},
		"Split": func(_, n, above *node, at int) bool {
			above.kids = slices.Insert(above.kids, at+1, &node{id: newId, text: n.text[cut:]})
			n.text = n.text[:cut]
			return true
		},
		"Join": func(_, n, above *node, at int) bool {
			if at+1 == len(above.kids) {
				return false
			}
			next := above.kids[at+1]
			n.text += next.text
			n.kids = append(n.kids, next.kids...)
			takeAway(above, at+1)
			return true
		},
	}
}

func TestCompoundsAgainstModel(t *testing.T) {
	var d dice
	single := func(o tree.Op, bad api.Errno) ([]tree.Op, api.Errno) { return []tree.Op{o}, bad }
	for range 600 {
		l := d.base(20)
		b := l[d.next(len(l))]
		if b.Id == 0 {
			continue
		}
		cut := d.next(len(b.Text) + 1)
		for name, change := range compounds(cut, l[len(l)-1].Id+1) {
			var ops []tree.Op
			var bad api.Errno
			switch name {
			case "Prune":
				ops, bad = tree.Prune(l, b.Id)
			case "Indent":
				ops, bad = single(tree.Indent(l, b.Id))
			case "Outdent":
				ops, bad = single(tree.Outdent(l, b.Id))
			case "Split":
				ops, bad = tree.Split(l, b.Id, cut)
			case "Join":
				ops, bad = tree.Join(l, b.Id)
			}
			root := grown(l, 0)
			n, above, _ := root.find(b.Id)
			if !change(root, n, above, above.position(b.Id)) {
				if bad != api.ErrState {
					t.Fatalf("%s of %d in %v: %d", name, b.Id, l, bad)
				}
			} else if bad != api.OK || !tree.Same(after(l, ops...), root.flat()) {
				t.Fatalf("%s of %d in %v: %v, %d", name, b.Id, l, ops, bad)
			}
		}
	}
}

// modelCheck looks for each error by itself.
func modelCheck(l []api.Block) api.Errno {
	if len(l) == 0 {
		return api.ErrForm
	}
	for i, b := range l {
		switch {
		case (b.Id == 0) != (i == 0) || b.Id < 0 || b.Id > api.MaxId:
			return api.ErrRange
		case i > 0 && l[i-1].Id >= b.Id:
			return api.ErrOrder
		case i == 0 && (b.Text != "" || b.Parent != 0 || len(b.Props) > 0):
			return api.ErrForm
		case text.Check(b.Text) != api.OK:
			return text.Check(b.Text)
		case prop.CheckProps(b.Props) != api.OK:
			return prop.CheckProps(b.Props)
		}
	}
	for _, b := range l {
		for i, kid := range b.Kids {
			at := slices.IndexFunc(l, func(b api.Block) bool { return b.Id == kid })
			switch {
			case at < 0:
				return api.ErrNone
			case at == 0 || l[at].Parent != b.Id:
				return api.ErrForm
			case slices.Index(b.Kids, kid) < i:
				return api.ErrTwice
			}
		}
	}
	depths := map[int]int{0: 0}
	for range l {
		for _, b := range l {
			for _, kid := range b.Kids {
				if depth, ok := depths[b.Id]; ok {
					depths[kid] = depth + 1
				}
			}
		}
	}
	for _, b := range l[1:] {
		if depth, ok := depths[b.Id]; !ok {
			return api.ErrLoop
		} else if depth > api.MaxDeep {
			return api.ErrDeep
		}
	}
	return api.OK
}

// spoilt gives a base with some wrong things, or with nothing wrong by chance.
func (d *dice) spoilt(l []api.Block) []api.Block {
	anyId := func() int { return one(d, -1, 0, l[d.next(len(l))].Id, l[d.next(len(l))].Id, d.next(40), api.MaxId+1) }
	for range 1 + d.next(2) {
		b := &l[d.next(len(l))]
		switch d.next(8) {
		case 0:
			b.Id = anyId()
		case 1:
			b.Parent = anyId()
		case 2:
			b.Kids = append(b.Kids, anyId())
		case 3:
			if len(b.Kids) > 0 {
				b.Kids[d.next(len(b.Kids))] = anyId()
			}
		case 4:
			other := &l[d.next(len(l))]
			b.Kids, other.Kids = other.Kids, b.Kids
		case 5:
			b.Text = one(d, "a", "\n", strings.Repeat("a", api.MaxString+1))
		case 6:
			b.Props = one(d, nil, props(2), []api.Prop{pr("A", num(1))}, []api.Prop{pr("a", list(list()))})
		case 7: // a ring, if other is below b
			other := &l[d.next(len(l))]
			for i := range l {
				l[i].Kids = slices.DeleteFunc(l[i].Kids, func(id int) bool { return id == b.Id })
			}
			b.Parent = other.Id
			other.Kids = append(other.Kids, b.Id)
		}
	}
	return l
}

func TestCheckAgainstModel(t *testing.T) {
	var d dice
	seen := map[api.Errno]int{}
	for range 20000 {
		l := d.spoilt(d.base(12))
		wanted := modelCheck(l)
		seen[wanted]++
		if got := tree.Check(l); got != wanted {
			t.Fatalf("%v: %d, want %d", l, got, wanted)
		}
	}
	for _, bad := range []api.Errno{api.OK, api.ErrForm, api.ErrRange, api.ErrName, api.ErrLarge, api.ErrOrder, api.ErrTwice, api.ErrNone, api.ErrByte, api.ErrKind, api.ErrLoop} {
		if seen[bad] < 20 {
			t.Errorf("error %d: %d times", bad, seen[bad])
		}
	}
}
