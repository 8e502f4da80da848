package tree_test

import (
	"fmt"
	"math"
	"reflect"
	"runtime/debug"
	"slices"
	"strings"
	"sync"
	"testing"
	"time"

	"florilegium/api"
	"florilegium/tree"
)

// The tests of this file hold the package against the general rules, Z1 to Z9.
// (Z4 stands with the errors of each function. Of Z10 the package has the form
// of outlines; it has no use of Z11 and Z12.)

// A result is what one call returns. Where it has no error, bad is OK.
type result struct {
	name   string
	values []any
	bad    api.Errno
}

// callAll calls every function, and gives all results.
func callAll(l []api.Block, id, n int, s string, ops []tree.Op) []result {
	var all []result
	keep := func(name string, bad api.Errno, values ...any) { all = append(all, result{name, values, bad}) }
	keepInt := func(name string, got int, bad api.Errno) { keep(name, bad, got) }
	keepInts := func(name string, got []int, bad api.Errno) { keep(name, bad, got) }
	keepOp := func(name string, got tree.Op, bad api.Errno) { keep(name, bad, got) }
	keepOps := func(name string, got []tree.Op, bad api.Errno) { keep(name, bad, got) }
	keepBase := func(name string, got []api.Block, bad api.Errno) { keep(name, bad, got) }
	depth, bad := tree.Depth(l, id)
	keepInt("Depth", depth, bad)
	page, bad := tree.PageOf(l, id)
	keepInt("PageOf", page, bad)
	path, bad := tree.Path(l, id)
	keepInts("Path", path, bad)
	below, bad := tree.Below(l, id)
	keepInts("Below", below, bad)
	keep("Check", api.OK, tree.Check(l), tree.Pages(l), tree.Order(l), tree.NextId(l), tree.Same(l, l), tree.Empty())
	block, ok := tree.Get(l, id)
	keep("Get", api.OK, block, ok)
	for _, o := range ops {
		next, bad := tree.Apply(l, o)
		keepBase("Apply", next, bad)
		back, bad := tree.Inverse(l, o)
		keepOp("Inverse", back, bad)
	}
	next, _, bad := tree.All(l, ops)
	keepBase("All", next, bad)
	pruned, bad := tree.Prune(l, id)
	keepOps("Prune", pruned, bad)
	moved, bad := tree.Indent(l, id)
	keepOp("Indent", moved, bad)
	moved, bad = tree.Outdent(l, id)
	keepOp("Outdent", moved, bad)
	split, bad := tree.Split(l, id, n)
	keepOps("Split", split, bad)
	joined, bad := tree.Join(l, id)
	keepOps("Join", joined, bad)
	outline, bad := tree.OutlineText(l, id)
	keep("OutlineText", bad, outline)
	lines, bad := tree.ReadOutline(s)
	keep("ReadOutline", bad, lines)
	grafted, bad := tree.Graft(l, id, n, lines)
	keepOps("Graft", grafted, bad)
	grafted, bad = tree.Graft(l, id, n, []tree.Line{{Text: s}, {Depth: n, Text: s}})
	keepOps("Graft", grafted, bad)
	return append(all, callHistory(l, n, ops)...)
}

func callHistory(l []api.Block, n int, ops []tree.Op) []result {
	var all []result
	keep := func(name string, bad api.Errno, values ...any) { all = append(all, result{name, values, bad}) }
	h, bad := tree.New(l)
	if bad != api.OK {
		keep("New", bad, h)
		return all
	}
	for _, o := range ops {
		keep("Do", api.OK, h.Do(o))
	}
	keep("DoAll", api.OK, h.DoAll(ops), h.DoAll(nil))
	for range 2 {
		done, undone := h.Length()
		keep("Length", api.OK, done, undone, h.Base(), h.Ops())
		for _, n := range []int{n, 0, 1, done} {
			then, bad := h.At(n)
			keep("At", bad, then)
		}
		keep("Undo", api.OK, h.Undo(), h.Undo(), h.Redo())
	}
	return all
}

// wildBase gives a list of blocks with any fields, or one that is only wrong in places, or right.
func (d *dice) wildBase() []api.Block {
	switch d.next(3) {
	case 0:
		return d.base(9)
	case 1:
		return d.spoilt(d.base(9))
	}
	var l []api.Block
	for range d.next(5) {
		l = append(l, api.Block{
			Id: d.wildNumber(), Parent: d.wildNumber(), Text: one(d, "", "a", "\n"), Kids: []int{d.wildNumber(), d.wildNumber()}[:d.next(3)],
			Props: []api.Prop{pr("a", d.wildValue(3)), pr(one(d, "", "A", "b"), d.wildValue(3))}[:d.next(3)],
		})
	}
	return l
}

func (d *dice) wildNumber() int {
	return one(d, math.MinInt, math.MinInt+1, math.MinInt32, -1, 0, 0, 1, 1, 2, 3, 5, 8, api.MaxId, api.MaxId+1, math.MaxInt32, math.MaxInt-1, math.MaxInt)
}

func (d *dice) wildValue(deep int) api.Value {
	v := api.Value{Kind: d.next(10) - 1, Int: d.wildNumber(), To: d.wildNumber(), Text: one(d, "", "a", "\n")}
	if deep > 0 {
		for range d.next(3) {
			v.Items = append(v.Items, d.wildValue(deep-1))
		}
	}
	return v
}

// wildOps gives operations with any fields among others.
func (d *dice) wildOps(l []api.Block) []tree.Op {
	var ops []tree.Op
	for range d.next(6) {
		if len(l) > 0 && d.next(2) == 0 {
			ops = append(ops, d.op(l))
			continue
		}
		o := tree.Op{Kind: d.next(7), Id: d.wildNumber(), Parent: d.wildNumber(), At: d.wildNumber()}
		if d.next(2) == 0 {
			o = tree.Op{Kind: d.next(7), Id: d.wildNumber(), From: d.wildNumber(), To: d.wildNumber(), Text: one(d, "", "a", "\n")}
		}
		if d.next(4) == 0 {
			o.Name, o.Value = one(d, "a", "A"), d.wildValue(2)
		}
		ops = append(ops, o)
	}
	return ops
}

func (d *dice) wildString() string {
	return strings.Join([]string{one(d, "", "- ", "  "), one(d, "a", "\n", "- "), one(d, "", "\n", "\x01"), one(d, "  - b\n", "- c\n", "\n")}[:d.next(5)], "")
}

// Z1, Z3, Z9

func TestCallsReturnAndErrorsHaveZeroValues(t *testing.T) {
	var d dice
	for range 6000 {
		l := d.wildBase()
		ops := d.wildOps(l)
		for _, r := range callAll(l, d.wildNumber(), d.wildNumber(), d.wildString(), ops) {
			for _, v := range r.values {
				got := reflect.ValueOf(v)
				if r.bad != api.OK && !got.IsZero() && !(got.Kind() == reflect.Slice && got.Len() == 0) {
					t.Fatalf("%s: %v beside %d", r.name, v, r.bad)
				}
			}
			if r.name == "Get" && r.values[1] == false && !equal(r.values[0].(api.Block), api.Block{}) {
				t.Fatal(r.values)
			}
		}
	}
}

// A history that New has not made has no blocks: all is refused.
func TestZeroHistory(t *testing.T) {
	var h tree.History
	for _, o := range append(allKinds(), insert(1, 0, 0, ""), set(0, "a", num(1))) {
		if h.Do(o) == api.OK || h.DoAll([]tree.Op{o}) == api.OK {
			t.Error(o)
		}
	}
	then, bad := h.At(0)
	if done, undone := h.Length(); h.Undo() || h.Redo() || done+undone+len(h.Base())+len(h.Ops())+len(then) != 0 || bad != api.OK {
		t.Error(then, bad)
	}
}

// Lists within lists, deeper than calls could go if each had a frame.
func TestDeepValues(t *testing.T) {
	defer debug.SetMaxStack(debug.SetMaxStack(1 << 24))
	nested := func(inner api.Value) []api.Block {
		for range 400000 {
			inner = list(inner)
		}
		return []api.Block{{}, {Id: 1, Props: []api.Prop{pr("a", inner)}}}
	}
	a, b := nested(num(1)), nested(num(2))
	if !tree.Same(a, a) || tree.Same(a, b) {
		t.Error("Same")
	}
	got, ok := tree.Get(a, 1)
	if !ok || !tree.Same([]api.Block{got}, a[1:]) {
		t.Error("Get")
	}
	if got := tree.Check(a); got != api.ErrKind {
		t.Error(got)
	}
	deep := a[1].Props[0].Value
	for _, o := range []tree.Op{set(1, "a", deep), {Kind: tree.Remove, Id: 1, Value: deep}} {
		_, bad := tree.Apply(example(), o)
		_, badBack := tree.Inverse(example(), o)
		h := must(tree.New(example()))
		if bad == api.OK || badBack != bad || h.Do(o) != bad {
			t.Error(bad, badBack)
		}
	}
}

// Z6

func TestLongArguments(t *testing.T) {
	begin := time.Now()
	const size = 1 << 20
	for _, bit := range []string{"- \n", "- ", " ", "  ", "\n", "- a\n  - b\n", "-"} {
		s := strings.Repeat(bit, api.MaxBody/len(bit))
		callAll(example(), 1, 0, s, nil)
		callAll(example(), 1, 0, "- "+s[:len(s)-2], nil)
	}
	if got := tree.Check(make([]api.Block, size)); got != api.ErrLarge {
		t.Error(got)
	}
	if got := tree.Check([]api.Block{{Kids: make([]int, size)}}); got != api.ErrLarge {
		t.Error(got)
	}
	if _, ok := tree.Get(make([]api.Block, size), 1); ok {
		t.Error("Get")
	}
	if !tree.Same(make([]api.Block, size), make([]api.Block, size)) {
		t.Error("Same")
	}
	h := must(tree.New(example()))
	edits := slices.Repeat([]tree.Op{edit(2, 0, 0, ""), set(2, "a", num(1))}, size/2)
	if bad := h.DoAll(edits); bad != api.ErrFull {
		t.Error(bad)
	}
	if _, _, bad := tree.All(example(), edits); bad != api.OK {
		t.Error(bad)
	}
	if bad := second(tree.Graft(example(), 2, 0, make([]tree.Line, size))); bad != api.ErrFull {
		t.Error(bad)
	}
	full := crowd(chain(api.MaxDeep), api.MaxBlocks)
	for id := range 40 {
		callAll(full, id+1, 0, "", []tree.Op{edit(1, 0, 0, "")})
	}
	if took := time.Since(begin); took > time.Minute {
		t.Error(took)
	}
}

// Z2

// A memory is that of a list, up to its capacity.
type memory struct {
	from, to uintptr
	what     string
}

// memoryOf gives the memory of all lists in something.
func memoryOf(what string, v reflect.Value) []memory {
	var all []memory
	switch v.Kind() {
	case reflect.Interface, reflect.Pointer:
		if !v.IsNil() {
			all = memoryOf(what, v.Elem())
		}
	case reflect.Struct:
		for i := range v.NumField() {
			all = append(all, memoryOf(what+"."+v.Type().Field(i).Name, v.Field(i))...)
		}
	case reflect.Slice:
		if size := uintptr(v.Cap()) * v.Type().Elem().Size(); size > 0 {
			all = append(all, memory{v.Pointer(), v.Pointer() + size, what})
		}
		for i := range v.Len() {
			all = append(all, memoryOf(fmt.Sprintf("%s[%d]", what, i), v.Index(i))...)
		}
	}
	return all
}

// shared tells which two of some lists share memory.
func shared(all []memory) string {
	slices.SortFunc(all, func(a, b memory) int { return int(int64(a.from) - int64(b.from)) })
	for i := 1; i < len(all); i++ {
		if all[i].from < all[i-1].to {
			return all[i-1].what + " and " + all[i].what
		}
	}
	return ""
}

// roomy gives something with lists that have room behind their ends, the empty ones too. What is there is not zero.
func roomy[T any](v T) T {
	copied := reflect.New(reflect.TypeFor[T]()).Elem()
	copied.Set(roomyValue(reflect.ValueOf(&v).Elem()))
	return copied.Interface().(T)
}

func roomyValue(v reflect.Value) reflect.Value {
	copied := reflect.New(v.Type()).Elem()
	switch v.Kind() {
	case reflect.Slice:
		copied.Set(reflect.MakeSlice(v.Type(), v.Len()+3, v.Len()+3))
		for i := range v.Len() {
			copied.Index(i).Set(roomyValue(v.Index(i)))
		}
		for i := range 3 {
			copied.Index(v.Len() + i).Set(rubbish(v.Type().Elem()))
		}
		copied.Set(copied.Slice(0, v.Len()))
	case reflect.Struct:
		for i := range v.NumField() {
			copied.Field(i).Set(roomyValue(v.Field(i)))
		}
	default:
		copied.Set(v)
	}
	return copied
}

func rubbish(t reflect.Type) reflect.Value {
	for _, v := range []any{77, api.Block{Id: 77}, pr("rubbish", num(77)), num(77), remove(77), tree.Line{Depth: 77}} {
		if reflect.TypeOf(v) == t {
			return reflect.ValueOf(v)
		}
	}
	panic(t)
}

// full gives what lists are up to their capacities.
func full(v reflect.Value) string {
	switch v.Kind() {
	case reflect.Slice:
		s := fmt.Sprint(v.Len(), "[")
		for i := range v.Cap() {
			s += full(v.Slice(0, v.Cap()).Index(i)) + " "
		}
		return s + "]"
	case reflect.Struct:
		s := "{"
		for i := range v.NumField() {
			s += full(v.Field(i)) + " "
		}
		return s + "}"
	}
	return fmt.Sprint(v)
}

func TestArgumentsStayAndResultsAreNew(t *testing.T) {
	var d dice
	for range 1500 {
		l := roomy(d.base(12))
		ops := d.wildOps(l)
		for range 3 {
			ops = append(ops, d.op(l))
		}
		ops = roomy(append(ops, set(l[len(l)-1].Id, "c", list(num(1), str("x")))))
		before := full(reflect.ValueOf(l)) + full(reflect.ValueOf(ops))
		arguments := append(memoryOf("base", reflect.ValueOf(l)), memoryOf("operations", reflect.ValueOf(ops))...)
		id := l[d.next(len(l))].Id
		all := callAll(l, id, d.next(3), d.wildString(), ops)
		if full(reflect.ValueOf(l))+full(reflect.ValueOf(ops)) != before {
			t.Fatal("an argument has changed: ", before)
		}
		results := arguments
		for _, r := range all {
			for _, v := range r.values {
				results = append(results, memoryOf(r.name, reflect.ValueOf(v))...)
			}
		}
		if names := shared(results); names != "" {
			t.Fatal(names, " share memory")
		}
	}
	lines := roomy([]tree.Line{{Text: "a"}, {Depth: 1, Text: "b"}})
	before := full(reflect.ValueOf(lines))
	if got := must(tree.Graft(example(), 2, 0, lines)); len(got) != 2 || full(reflect.ValueOf(lines)) != before {
		t.Error(got, lines)
	}
}

// What a history is given may change after that, and so may what it has returned.
func TestHistoryKeepsNothing(t *testing.T) {
	spoil := func(l []api.Block, ops []tree.Op) {
		for _, b := range l {
			for _, p := range b.Props {
				clear(p.Value.Items)
			}
			clear(b.Kids)
			clear(b.Props)
		}
		clear(l)
		for _, o := range ops {
			clear(o.Value.Items)
		}
		clear(ops)
	}
	withList := func() []api.Block {
		return changed(zoo(), func(l []api.Block) { l[3].Props = []api.Prop{pr("a", list(num(5), num(6)))} })
	}
	l := withList()
	h := must(tree.New(l))
	spoil(l, nil)
	ops := append(allKinds(), set(9, "l", list(num(1), num(2))))
	last := set(9, "m", list(str("a")))
	if h.DoAll(ops) != api.OK || h.Do(last) != api.OK {
		t.Fatal("DoAll")
	}
	spoil(nil, ops)
	clear(last.Value.Items)
	done := append(append(allKinds(), set(9, "l", list(num(1), num(2)))), set(9, "m", list(str("a"))))
	for range 3 {
		wantState(t, "spoiled", h, withList(), done, 0)
		spoil(h.Base(), h.Ops())
		spoil(must(h.At(len(done))), nil)
		spoil(must(h.At(0)), nil)
		for h.Undo() {
			spoil(h.Base(), h.Ops())
		}
		for h.Redo() {
			spoil(h.Base(), nil)
		}
	}
	other := must(tree.New(example()))
	other.Do(remove(3))
	wantState(t, "beside another one", h, withList(), done, 0)
	wantState(t, "another one", other, example(), []tree.Op{remove(3)}, 0)
}

// Z5

func TestEmptyAndNilAreTheSame(t *testing.T) {
	var d dice
	for range 500 {
		l := d.base(10)
		ops := append(d.wildOps(l), d.op(l), d.op(l))
		id, n, s := l[d.next(len(l))].Id, d.next(3), d.wildString()
		all, again := callAll(plain(l), id, n, s, plain(ops)), callAll(roomy(l), id, n, s, roomy(ops))
		for i, r := range all {
			if r.bad != again[i].bad {
				t.Fatalf("%s: %d and %d", r.name, r.bad, again[i].bad)
			}
			for k, v := range r.values {
				if a, b := fmt.Sprint(v), fmt.Sprint(again[i].values[k]); a != b {
					t.Fatalf("%s: %s and %s", r.name, a, b)
				}
			}
		}
	}
	for _, l := range [][]api.Block{nil, {}} {
		if !tree.Same(l, nil) || tree.Check(l) != api.ErrForm {
			t.Error(l)
		}
	}
	if !tree.Same(plain(zoo()), roomy(zoo())) || !tree.Same(roomy(zoo()), plain(zoo())) {
		t.Error("Same")
	}
	for _, lines := range [][]tree.Line{nil, {}} {
		if got, bad := tree.Graft(example(), 0, 0, lines); len(got) != 0 || bad != api.OK {
			t.Error(got, bad)
		}
	}
}

// Z7, and Z2: a call depends on its arguments alone

func TestSameArgumentsGiveSameResults(t *testing.T) {
	run := func() [][]result {
		var d dice
		var all [][]result
		for range 300 {
			l := d.base(15)
			all = append(all, callAll(l, l[d.next(len(l))].Id, d.next(3), d.wildString(), d.wildOps(l)))
		}
		return all
	}
	want := run()
	got := make([][][]result, 4)
	var group sync.WaitGroup
	for i := range got {
		group.Go(func() { got[i] = run() })
	}
	group.Wait()
	for i := range got {
		if !reflect.DeepEqual(got[i], want) {
			t.Error("results differ")
		}
	}
}
