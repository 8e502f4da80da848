package tree_test

import (
	"math"
	"testing"

	"florilegium/api"
	"florilegium/tree"
)

// P3.6

// wantState tells where a history is not as it should be: its base, what is done, and how many are undone.
func wantState(t *testing.T, name string, h *tree.History, first []api.Block, ops []tree.Op, undone int) {
	t.Helper()
	now := after(first, ops...)
	if got := h.Base(); !tree.Same(got, now) {
		t.Errorf("%s: Base = %.600v, want %.600v", name, got, now)
	}
	if done, away := h.Length(); done != len(ops) || away != undone {
		t.Errorf("%s: Length = %d, %d, want %d, %d", name, done, away, len(ops), undone)
	}
	if got := h.Ops(); !equal(got, ops) {
		t.Errorf("%s: Ops = %v, want %v", name, got, ops)
	}
	for n := range len(ops) + 1 {
		if got, bad := h.At(n); bad != api.OK || !tree.Same(got, after(first, ops[:n]...)) {
			t.Errorf("%s: At(%d) = %v, %d", name, n, got, bad)
		}
	}
	for _, n := range []int{-1, len(ops) + 1, math.MinInt, math.MaxInt} {
		got, bad := h.At(n)
		want(t, name+": At", got, nil, bad, api.ErrRange)
	}
}

// allKinds are operations of all kinds on the base zoo.
func allKinds() []tree.Op {
	return []tree.Op{
		insert(11, 2, 1, "new"), move(8, 5, 1), edit(6, 0, 1, "h"), set(4, "a", list(num(1), str("x"))), remove(10), move(5, 0, 1),
		set(4, "b", api.Value{}), move(11, 2, 0), set(11, "n", num(1)), remove(11), insert(11, 0, 2, "again"), insert(10, 11, 0, "ten"),
	}
}

func TestNew(t *testing.T) {
	for _, l := range [][]api.Block{tree.Empty(), example(), zoo(), crowd(tree.Empty(), api.MaxBlocks)} {
		h, bad := tree.New(l)
		if bad != api.OK {
			t.Fatal(bad)
		}
		wantState(t, "New", h, l, nil, 0)
		if h.Undo() || h.Redo() {
			t.Error("there is nothing to undo or to redo")
		}
	}
	for _, c := range wrongBases() {
		if h, bad := tree.New(c.base); h != nil || bad != c.bad {
			t.Errorf("New of %s: %v, %d", c.name, h, bad)
		}
	}
}

func TestDoUndoRedo(t *testing.T) {
	h := must(tree.New(zoo()))
	ops := allKinds()
	for i, o := range ops {
		if bad := h.Do(o); bad != api.OK {
			t.Fatal(i, bad)
		}
		wantState(t, "Do", h, zoo(), ops[:i+1], 0)
	}
	for range 2 {
		for left := len(ops) - 1; left >= 0; left-- {
			if !h.Undo() {
				t.Fatal(left)
			}
			wantState(t, "Undo", h, zoo(), ops[:left], len(ops)-left)
		}
		if h.Undo() {
			t.Error("nothing is done")
		}
		wantState(t, "Undo of nothing", h, zoo(), nil, len(ops))
		for done := 1; done <= len(ops); done++ {
			if !h.Redo() {
				t.Fatal(done)
			}
			wantState(t, "Redo", h, zoo(), ops[:done], len(ops)-done)
		}
		if h.Redo() {
			t.Error("nothing is undone")
		}
		wantState(t, "Redo of nothing", h, zoo(), ops, 0)
	}
}

func TestDoAfterUndo(t *testing.T) {
	ops := allKinds()
	for kept := range len(ops) {
		h := must(tree.New(zoo()))
		if bad := h.DoAll(ops); bad != api.OK {
			t.Fatal(bad)
		}
		for range len(ops) - kept {
			h.Undo()
		}
		if bad := h.Do(tree.Op{Kind: tree.Remove, Id: 5}); bad != api.ErrState {
			t.Error(bad)
		}
		wantState(t, "wrong Do", h, zoo(), ops[:kept], len(ops)-kept)
		if bad := h.Do(edit(3, 0, 4, "wolves")); bad != api.OK {
			t.Error(bad)
		}
		want := append(append([]tree.Op{}, ops[:kept]...), edit(3, 0, 4, "wolves"))
		wantState(t, "Do after Undo", h, zoo(), want, 0)
		if h.Redo() {
			t.Error("what was undone is gone")
		}
		h.Undo()
		wantState(t, "Undo after it", h, zoo(), ops[:kept], 1)
		h.Redo()
		wantState(t, "Redo after it", h, zoo(), want, 0)
	}
}

func TestDoErrors(t *testing.T) {
	for _, c := range wrongOps() {
		if c.bad == api.OK {
			continue
		}
		h := must(tree.New(c.base))
		first := insert(8888, 0, 0, "first")
		undone := set(1, "p10", num(7))
		if c.bad != api.ErrFull {
			h.DoAll([]tree.Op{first, undone})
			h.Undo()
		}
		length, _ := h.Length()
		before := h.Base()
		if bad := h.Do(c.o); bad != c.bad {
			t.Errorf("Do, %s: %d, want %d", c.name, bad, c.bad)
		}
		if bad := h.DoAll([]tree.Op{edit(1, 0, 0, "x"), c.o, {}}); bad != c.bad {
			t.Errorf("DoAll, %s: %d, want %d", c.name, bad, c.bad)
		}
		if done, away := h.Length(); done != length || away != length || !tree.Same(h.Base(), before) {
			t.Errorf("%s: %d, %d", c.name, done, away)
		}
	}
}

func TestDoAll(t *testing.T) {
	ops := allKinds()
	h := must(tree.New(zoo()))
	if bad := h.DoAll(ops[:3]); bad != api.OK {
		t.Error(bad)
	}
	wantState(t, "DoAll", h, zoo(), ops[:3], 0)
	h.Undo()
	h.Undo()
	for i := range 6 {
		l := append(append([]tree.Op{}, ops[1:1+i]...), remove(5), tree.Op{})
		if bad := h.DoAll(l); bad != api.ErrState {
			t.Error(i, bad)
		}
		wantState(t, "DoAll of a wrong one", h, zoo(), ops[:1], 2)
	}
	for _, l := range [][]tree.Op{nil, {}} {
		if bad := h.DoAll(l); bad != api.OK {
			t.Error(bad)
		}
		wantState(t, "DoAll of none", h, zoo(), ops[:1], 2)
	}
	h.Redo()
	if bad := h.DoAll(ops[2:]); bad != api.OK {
		t.Error(bad)
	}
	wantState(t, "DoAll of the rest", h, zoo(), ops, 0)
}

func TestFullHistory(t *testing.T) {
	h := must(tree.New(base("1 a")))
	var ops []tree.Op
	for i := range tree.MaxOps {
		ops = append(ops, edit(1, 0, 1, string(rune('a'+i%26))))
	}
	if bad := h.DoAll(append(ops[1:], ops[:2]...)); bad != api.ErrFull {
		t.Error(bad)
	}
	if bad := h.DoAll(append(append([]tree.Op{}, ops...), ops[0], remove(7))); bad != api.ErrFull {
		t.Error(bad)
	}
	if bad := h.DoAll(append(append([]tree.Op{}, ops...), remove(7), ops[0])); bad != api.ErrNone {
		t.Error(bad)
	}
	if done, undone := h.Length(); done != 0 || undone != 0 || !tree.Same(h.Base(), base("1 a")) {
		t.Error(done, undone)
	}
	if bad := h.DoAll(ops[:tree.MaxOps-1]); bad != api.OK {
		t.Error(bad)
	}
	if bad := h.DoAll(ops[:2]); bad != api.ErrFull {
		t.Error(bad)
	}
	if bad := h.Do(ops[tree.MaxOps-1]); bad != api.OK {
		t.Error(bad)
	}
	if h.Do(ops[0]) != api.ErrFull || h.Do(remove(7)) != api.ErrNone || h.DoAll(ops[:1]) != api.ErrFull || h.DoAll(nil) != api.OK {
		t.Error("full")
	}
	if done, undone := h.Length(); done != tree.MaxOps || undone != 0 || h.Base()[1].Text != ops[tree.MaxOps-1].Text {
		t.Error(done, undone)
	}
	h.Undo()
	if bad := h.Do(edit(1, 0, 1, "last")); bad != api.OK || h.Base()[1].Text != "last" {
		t.Error(bad)
	}
	if got := h.Ops(); len(got) != tree.MaxOps || !equal(got[:20], ops[:20]) || got[tree.MaxOps-1].Text != "last" {
		t.Error(len(got))
	}
	for n := 0; n <= tree.MaxOps; n += 1000 {
		wanted := base("1 a")
		if n > 0 {
			wanted[1].Text = ops[n-1].Text
		}
		if n == tree.MaxOps {
			wanted[1].Text = "last"
		}
		got, bad := h.At(n)
		want(t, "At", got, wanted, bad, api.OK)
	}
	for h.Undo() {
	}
	if !tree.Same(h.Base(), base("1 a")) {
		t.Error(h.Base())
	}
	for h.Redo() {
	}
	if done, undone := h.Length(); done != tree.MaxOps || undone != 0 || h.Base()[1].Text != "last" {
		t.Error(done, undone)
	}
}

// Undo and Redo, and the base at a time, take little time with many blocks, too.
func TestLongHistory(t *testing.T) {
	h := must(tree.New(crowd(tree.Empty(), api.MaxBlocks)))
	for i := range tree.MaxOps {
		if bad := h.Do(move(5001+i%400, 5000, (i*7)%400)); bad != api.OK {
			t.Fatal(i, bad)
		}
	}
	last := h.Base()
	for range 10 {
		for h.Undo() {
		}
		for h.Redo() {
		}
	}
	if !tree.Same(h.Base(), last) || !tree.Same(must(h.At(tree.MaxOps)), last) || !tree.Same(must(h.At(0)), crowd(tree.Empty(), api.MaxBlocks)) {
		t.Error("not as it was")
	}
}
