package copy_test

import (
	"fmt"
	"math"
	"reflect"
	"runtime/debug"
	"slices"
	"strings"
	"sync"
	"testing"
	"time"

	"florilegium/api"
	"florilegium/copy"
	"florilegium/tree"
)

// The tests of this file hold the package against the general rules, Z1 to Z9.
// (Z4 stands with the errors of each function, Z10 with what is read, Z11 with
// Before and Erase; the package has no quotients of Z12.)

// The numbers of the chapter's face.
func TestConstants(t *testing.T) {
	got := []int{copy.MaxCopies, copy.MaxOps, copy.MaxTime, copy.MaxRun, copy.Insert, copy.Move, copy.Remove, copy.Type, copy.Erase, copy.SetProp}
	want(t, "constants", got, []int{16, 4000, 1_000_000_000, 500, 1, 2, 3, 4, 5, 6}, 0, 0)
}

// A result is what one call returns. Where it has no error, bad is OK.
type result struct {
	name   string
	values []any
	bad    api.Errno
}

// An argument is what the functions are asked.
type argument struct {
	op             copy.Op
	ops, taken     []copy.Op
	written        string
	number         int
	tree           []tree.Op
	id, parent, at int
	knows, others  copy.Knows
}

func found[T any](name string) func(value T, bad api.Errno) result {
	return func(value T, bad api.Errno) result { return result{name, []any{value}, bad} }
}

// callAll calls every function, and gives all results.
func callAll(a argument) []result {
	base, gone, bad := copy.Replay(a.ops)
	all := []result{
		{"Before", []any{copy.Before(a.op.Stamp, a.op.After.Stamp)}, api.OK}, {"Meet", []any{copy.Meet(a.knows, a.others)}, api.OK}, {"CheckOp", nil, copy.CheckOp(a.op)},
		found[string]("OpsText")(copy.OpsText(a.ops)), found[[]copy.Op]("ReadOps")(copy.ReadOps(a.written)), {"Replay", []any{base, gone}, bad},
	}
	c, bad := copy.New(a.number)
	if bad != api.OK {
		return append(all, result{"New", []any{c}, bad})
	}
	return append(all, callWithCopy(c, a)...)
}

func callWithCopy(c *copy.Copy, a argument) []result {
	all := []result{found[int]("Take")(c.Take(a.ops)), found[int]("Take")(c.Take(a.taken))}
	for _, o := range a.tree {
		all = append(all, found[[]copy.Op]("Do")(c.Do(o)))
	}
	all = append(all, found[copy.Op]("Restore")(c.Restore(a.id, a.parent, a.at)), result{"Ops", []any{c.Base(), c.Gone(), c.Ops(), c.Knows(), c.Fresh(), c.Time(), c.Number()}, api.OK},
		found[[]copy.Spot]("Spots")(c.Spots(a.id)), found[[]copy.Op]("Since")(c.Since(a.knows)))
	fork, bad := c.Fork(a.parent)
	if bad != api.OK {
		return append(all, result{"Fork", []any{fork}, bad})
	}
	return append(all, result{"Ops", []any{fork.Base(), fork.Gone(), fork.Ops(), fork.Knows(), fork.Fresh(), fork.Time(), fork.Number()}, api.OK})
}

// argument gives arguments of which most are right.
func (d *dice) argument() argument {
	l := d.history(25)
	a := argument{ops: d.some(l), taken: d.shuffled(d.some(l)), number: d.next(copy.MaxCopies), id: 1 + d.next(20), parent: d.next(17), at: d.next(2), knows: d.knows(), others: d.knows()}
	a.op = d.op(at(40, 3), []int{1}, []copy.Spot{{}, spot(1, 1, 1), spot(2, 1, 0)})
	a.written = must(copy.OpsText(a.ops))
	base, _, _ := copy.Replay(a.ops)
	for range d.next(4) {
		a.tree = append(a.tree, d.treeOp(base, a.number))
	}
	return a
}

func (d *dice) knows() copy.Knows {
	var k copy.Knows
	for range d.next(19) {
		k = append(k, d.next(5))
	}
	return k
}

// wild gives arguments of which some are wrong.
func (d *dice) wild() argument {
	a := d.argument()
	for range 1 + d.next(3) {
		switch d.next(9) {
		case 0:
			a.op = d.spoilt(a.op)
		case 1:
			a.ops = append(a.ops, d.spoilt(a.op))
		case 2:
			a.ops = append(a.ops, d.some(a.ops)...)
		case 3:
			a.taken = append(a.taken, d.spoilt(a.op))
			if len(a.ops) > 0 {
				a.taken = append(a.taken, changed(a.ops[0], func(o *copy.Op) { o.Id++ }))
			}
		case 4:
			a.written = d.spoiltLines(a.written) + one(d, "", "x", strings.Repeat(" ", 2000))
		case 5:
			a.number = d.wildNumber()
		case 6:
			a.tree = append(a.tree, d.spoiltTreeOp(d.treeOp([]api.Block{{}}, a.number)))
		case 7:
			a.id, a.parent, a.at = d.wildNumber(), d.wildNumber(), d.wildNumber()
		case 8:
			a.knows, a.others = append(a.knows, d.wildNumber()), append(a.others, d.wildNumber())
		}
	}
	return a
}

// isNothing asks whether a value is what a result has beside an error.
func isNothing(v any) bool {
	got := reflect.ValueOf(v)
	return got.IsZero() || got.Kind() == reflect.Slice && got.Len() == 0
}

// Z1, Z3, Z9

func TestCallsReturnAndErrorsHaveZeroValues(t *testing.T) {
	var d dice
	wrong := map[string]int{}
	for range 10_000 {
		for _, r := range callAll(d.wild()) {
			if r.bad == api.OK {
				continue
			}
			wrong[r.name]++
			for _, v := range r.values {
				if !isNothing(v) {
					t.Fatalf("%s: %v beside %d", r.name, v, r.bad)
				}
			}
		}
	}
	for _, name := range strings.Fields("CheckOp OpsText ReadOps Replay New Take Do Restore Spots Since Fork") {
		if wrong[name] < 100 {
			t.Error(name, wrong[name])
		}
	}
}

// Z3: a method that returns an error changes nothing.
func TestErrorsChangeNothing(t *testing.T) {
	var d dice
	for i := range rounds(t, 3000) {
		a := d.wild()
		c, bad := copy.New(a.number)
		if bad != api.OK {
			continue
		}
		c.Take(d.history(25))
		state := func() string {
			return fmt.Sprint(c.Ops(), c.Base(), c.Gone(), c.Knows(), c.Fresh(), c.Time(), c.Number())
		}
		before := state()
		name := one(&d, "Take", "Do", "Restore", "Since", "Fork", "Spots")
		switch name {
		case "Take":
			_, bad = c.Take(a.taken)
		case "Do":
			_, bad = c.Do(d.spoiltTreeOp(d.treeOp(c.Base(), a.number)))
		case "Restore":
			_, bad = c.Restore(a.id, a.parent, a.at)
		case "Since":
			_, bad = c.Since(a.knows)
		case "Fork":
			_, bad = c.Fork(a.parent)
		case "Spots":
			_, bad = c.Spots(a.id)
		}
		changes := bad == api.OK && (name == "Take" || name == "Do" || name == "Restore")
		if after := state(); after != before && !changes {
			t.Error(i, name, bad, before, after)
		}
	}
}

// A copy that New has not made has the number 0.
func TestZeroCopy(t *testing.T) {
	var c copy.Copy
	want(t, "numbers", []int{c.Number(), c.Time(), c.Fresh(), len(c.Ops()), len(c.Knows())}, []int{0, 0, 16, 0, 16}, 0, 0)
	wantBase(t, "zero", &c, "")
	done(&c, insert(16, 0, 0, "a"))
	wantBase(t, "zero", &c, "16:a")
}

// Values that are nested deeper than calls could go if each had a frame.
func TestDeepValues(t *testing.T) {
	defer debug.SetMaxStack(debug.SetMaxStack(1 << 24))
	inner := str("")
	for range 400_000 {
		inner = list(inner)
	}
	l := []copy.Op{given(at(1, 1), 1, "n", inner)}
	wantError(t, "CheckOp", copy.CheckOp(l[0]), api.ErrKind)
	wantError(t, "OpsText", second(copy.OpsText(l)), api.ErrKind)
	wantError(t, "Replay", third(copy.Replay(l)), api.ErrKind)
	wantError(t, "unused", copy.CheckOp(copy.Op{Stamp: at(1, 1), Kind: copy.Remove, Id: 1, Value: inner}), api.ErrForm)
	c := must(copy.New(1))
	wantError(t, "Take", second(c.Take(l)), api.ErrKind)
	done(c, insert(1, 0, 0, ""))
	wantError(t, "Do", second(c.Do(set(1, "n", inner))), api.ErrKind)
}

func TestLongArguments(t *testing.T) {
	begin := time.Now()
	const length = 1 << 21
	c := must(copy.New(1))
	wantError(t, "OpsText", second(copy.OpsText(make([]copy.Op, length))), api.ErrLarge)
	wantError(t, "Replay", third(copy.Replay(make([]copy.Op, length))), api.ErrLarge)
	wantError(t, "Take", second(c.Take(make([]copy.Op, length))), api.ErrLarge)
	wantError(t, "ReadOps", second(copy.ReadOps(strings.Repeat("1 ", length))), api.ErrLarge)
	wantError(t, "Octets", copy.CheckOp(typed(at(2, 1), 1, copy.Spot{}, strings.Repeat("x", length))), api.ErrLarge)
	wantError(t, "Spots", copy.CheckOp(erased(at(2, 1), 1, spotsFrom(0, api.MaxString)...)), api.ErrLarge)
	wantError(t, "Spots", copy.CheckOp(erased(at(2, 1), 1, make([]copy.Spot, length)...)), api.ErrStamp)
	wantError(t, "Since", second(c.Since(make(copy.Knows, length))), api.OK)
	want(t, "Meet", len(copy.Meet(make(copy.Knows, length), nil)), length, 0, 0)
	for _, bit := range []string{"1 ", " ", "\n", "1 1 remove 1\n", "1", "1 1 erase 1 1 1 1 1 1 1", "1 1 insert 1 0 0 \"", "1 1 set 1 n [", "[", "1 1 set 1 n \\"} {
		if got, bad := copy.ReadOps(strings.Repeat(bit, api.MaxBody/len(bit))); bad == api.OK {
			t.Error(bit, len(got))
		}
	}
	_, bad := copy.ReadOps("2 1 erase 1" + strings.Repeat(" 1 1 1", api.MaxBody/7) + "\n")
	wantError(t, "erase", bad, api.ErrLarge)
	if took := time.Since(begin); took > 20*time.Second {
		t.Error(took)
	}
}

// Z6

// quick tells where something takes more time than it may.
func quick(t *testing.T, name string, call func()) {
	t.Helper()
	begin := time.Now()
	call()
	if took := time.Since(begin); took > 30*time.Second {
		t.Error(name, took)
	}
}

func TestManyEdits(t *testing.T) {
	c := must(copy.New(1))
	done(c, insert(1, 0, 0, strings.Repeat("a", copy.MaxRun)))
	quick(t, "edits", func() {
		for range (copy.MaxOps - 1) / 2 {
			done(c, edit(1, 0, copy.MaxRun, strings.Repeat("b", copy.MaxRun)))
		}
	})
	other := must(copy.New(2))
	quick(t, "takes", func() {
		l := c.Ops()
		for i := range l {
			must(other.Take(l[len(l)-1-i:][:1]))
			other.Base()
		}
	})
	want(t, "Base", other.Base(), c.Base(), 0, 0)
}

// Each operation types into what the one before has typed.
func TestManyPieces(t *testing.T) {
	l := full()
	for i := range copy.MaxOps - 1 {
		l = append(l, typed(at(2+i, 1), 1, spot(1+i, 1, 200), strings.Repeat("x", copy.MaxRun)))
	}
	quick(t, "pieces", func() {
		base, _, bad := copy.Replay(l)
		want(t, "text", len(textOf(base, 1)), api.MaxString, bad, api.OK)
	})
}

func TestManyBlocks(t *testing.T) {
	l := append(crowd(0), kids(10_000, 10_000, 1996, copy.MaxOps-api.MaxBlocks+1)...)
	for i := range l {
		l[i].Octets = strings.Repeat("x", api.MaxString)
	}
	var c *copy.Copy
	quick(t, "blocks", func() { c = knowing(1, l...) })
	quick(t, "Base", func() {
		for range 20 {
			want(t, "blocks", len(c.Base()), api.MaxBlocks, 0, 0)
			c.Do(edit(1, 0, 1, "a"))
		}
	})
	c = must(copy.New(1))
	quick(t, "inserts", func() {
		for i := range 1500 {
			page := i / 400 * 400
			if i == page {
				done(c, insert(16*i+1, 0, 0, ""))
			} else {
				done(c, insert(16*i+1, 16*page+1, 0, ""))
			}
		}
	})
}

// Z2

// A memory is that of a list, up to its capacity.
type memory struct {
	from, to uintptr
	what     string
}

// memoryOf gives the memory of all lists in something.
func memoryOf(what string, v reflect.Value) []memory {
	var all []memory
	switch v.Kind() {
	case reflect.Struct:
		for i := range v.NumField() {
			all = append(all, memoryOf(what+"."+v.Type().Field(i).Name, v.Field(i))...)
		}
	case reflect.Slice:
		if size := uintptr(v.Cap()) * v.Type().Elem().Size(); size > 0 {
			all = append(all, memory{v.Pointer(), v.Pointer() + size, what})
		}
		for i := range v.Len() {
			all = append(all, memoryOf(fmt.Sprintf("%s[%d]", what, i), v.Index(i))...)
		}
	}
	return all
}

// shared tells which two of some lists share memory.
func shared(all []memory) string {
	slices.SortFunc(all, func(a, b memory) int { return int(int64(a.from) - int64(b.from)) })
	for i := 1; i < len(all); i++ {
		if all[i].from < all[i-1].to {
			return all[i-1].what + " and " + all[i].what
		}
	}
	return ""
}

// roomy gives something with lists that have room behind their ends, the empty ones too. What is there is not zero.
func roomy[T any](v T) T {
	copied := reflect.New(reflect.TypeFor[T]()).Elem()
	copied.Set(roomyValue(reflect.ValueOf(&v).Elem()))
	return copied.Interface().(T)
}

func roomyValue(v reflect.Value) reflect.Value {
	copied := reflect.New(v.Type()).Elem()
	switch v.Kind() {
	case reflect.Slice:
		copied.Set(reflect.MakeSlice(v.Type(), v.Len()+3, v.Len()+3))
		for i := range v.Len() {
			copied.Index(i).Set(roomyValue(v.Index(i)))
		}
		for i := range 3 {
			copied.Index(v.Len() + i).Set(rubbish(v.Type().Elem()))
		}
		copied.Set(copied.Slice(0, v.Len()))
	case reflect.Struct:
		for i := range v.NumField() {
			copied.Field(i).Set(roomyValue(v.Field(i)))
		}
	default:
		copied.Set(v)
	}
	return copied
}

func rubbish(t reflect.Type) reflect.Value {
	for _, v := range []any{77, num(77), spot(77, 7, 7), removed(at(77, 7), 7), remove(77)} {
		if reflect.TypeOf(v) == t {
			return reflect.ValueOf(v)
		}
	}
	panic(t)
}

// roomyArgument gives arguments whose lists have room, thinArgument those whose empty lists are nil.
func roomyArgument(a argument) argument {
	a.op, a.ops, a.taken, a.tree, a.knows, a.others = roomy(a.op), roomy(a.ops), roomy(a.taken), roomy(a.tree), roomy(a.knows), roomy(a.others)
	return a
}

func thinArgument(a argument) argument {
	a.op, a.ops, a.taken, a.tree, a.knows, a.others = plain(a.op), plain(a.ops), plain(a.taken), plain(a.tree), plain(a.knows), plain(a.others)
	return a
}

// fullOf shows what lists are up to their capacities.
func fullOf(v reflect.Value) string {
	switch v.Kind() {
	case reflect.Slice:
		s := fmt.Sprint(v.Len(), "[")
		for i := range v.Cap() {
			s += fullOf(v.Slice(0, v.Cap()).Index(i)) + " "
		}
		return s + "]"
	case reflect.Struct:
		s := "{"
		for i := range v.NumField() {
			s += fullOf(v.Field(i)) + " "
		}
		return s + "}"
	}
	return fmt.Sprint(v)
}

func TestArgumentsStayAndResultsAreNew(t *testing.T) {
	var d dice
	for range rounds(t, 1000) {
		a := roomyArgument(one(&d, d.argument(), d.wild()))
		given := reflect.ValueOf(a)
		before := fullOf(given)
		memories := memoryOf("arguments", given)
		for _, r := range callAll(a) {
			for i, v := range r.values {
				memories = append(memories, memoryOf(fmt.Sprint(r.name, " ", i), reflect.ValueOf(v))...)
			}
		}
		if fullOf(given) != before {
			t.Fatal("an argument has changed: ", before)
		}
		if names := shared(memories); names != "" {
			t.Fatal(names, " share memory")
		}
	}
}

// spoil changes all that is in some lists.
func spoil(lists ...any) {
	for _, l := range lists {
		spoilValue(reflect.ValueOf(l))
	}
}

func spoilValue(v reflect.Value) {
	switch v.Kind() {
	case reflect.Slice:
		for i := range v.Len() {
			spoilValue(v.Index(i))
			v.Index(i).SetZero()
		}
	case reflect.Struct:
		for i := range v.NumField() {
			spoilValue(v.Field(i))
		}
	}
}

// What a copy is given may change after that, and so may what it has returned, be it there or in a fork.
func TestCopiesKeepNothing(t *testing.T) {
	lines := []string{`1 1 insert 1 0 0 "abc"`, `2 1 set 1 n [1, 2]`, `3 1 erase 1 1 1 0 1 1 2`, `4 1 type 1 1 1 1 "x"`, `5 2 set 1 m [3, "y"]`, `6 2 erase 1 1 1 1`, `7 2 type 1 0 0 0 "z"`}
	l := read(lines[:4]...)
	c := must(copy.New(2))
	must(c.Take(l))
	spoil(l)
	value := list(num(3), str("y"))
	made := done(c, set(1, "m", value), edit(1, 0, 1, "z"))
	spoil(value.Items, made)
	for _, c := range []*copy.Copy{c, must(c.Fork(3)), c} {
		for number := range 2 {
			wantBase(t, "spoilt", c, `1:zx m=[3, "y"] n=[1, 2]`)
			want(t, "spoilt", c.Ops()[:7], read(lines...), 0, 0)
			spots, bad := c.Spots(1)
			want(t, "spoilt", spots, []copy.Spot{spot(7, 2, 0), spot(4, 1, 0)}, bad, api.OK)
			spoil(c.Ops(), c.Base(), c.Gone(), c.Knows(), must(c.Since(nil)), spots)
			must(c.Take(read(fmt.Sprint(`8 `, number, ` remove 99`))))
		}
	}
	// Once more with all done again.
	must(c.Take(read(`1 9 remove 99`)))
	wantBase(t, "again", c, `1:zx m=[3, "y"] n=[1, 2]`)
}

// Z5

func TestEmptyAndNilAreTheSame(t *testing.T) {
	var d dice
	for range rounds(t, 1000) {
		a := one(&d, d.argument(), d.wild())
		all, again := callAll(thinArgument(a)), callAll(roomyArgument(a))
		for i, r := range all {
			if x, y := fmt.Sprint(plainResult(r)), fmt.Sprint(plainResult(again[i])); x != y {
				t.Fatalf("%s and %s", x, y)
			}
		}
	}
}

// plainResult shows a result without the places of objects.
func plainResult(r result) string {
	if r.name == "Fork" || r.name == "New" {
		return fmt.Sprint(r.name, r.bad)
	}
	return fmt.Sprint(r)
}

// Z7, and Z2: a call depends on its arguments alone

func TestSameArgumentsGiveSameResults(t *testing.T) {
	run := func() [][]result {
		var d dice
		var all [][]result
		for range 300 {
			all = append(all, callAll(d.argument()))
		}
		return all
	}
	want := run()
	got := make([][][]result, 4)
	var group sync.WaitGroup
	for i := range got {
		group.Go(func() { got[i] = run() })
	}
	group.Wait()
	for i := range got {
		if !reflect.DeepEqual(got[i], want) {
			t.Error("results differ")
		}
	}
}

// Z2: forks share nothing that one of them changes. (go test -race would tell.)
func TestForksAtOneTime(t *testing.T) {
	first := knowing(1, read(append(zoo, `3 1 set 4 n [1, 2]`, `4 1 erase 4 2 4 0`)...)...)
	var forks []*copy.Copy
	for number := 2; number < copy.MaxCopies; number++ {
		forks = append(forks, must(first.Fork(number)))
	}
	var group sync.WaitGroup
	for _, c := range forks {
		group.Go(func() {
			for range 20 {
				done(c, insert(c.Fresh(), 4, 0, "x"), edit(4, 0, 0, "a"), set(4, "n", list(num(c.Number()))))
			}
		})
	}
	group.Wait()
	for _, c := range forks {
		b, _ := tree.Get(c.Base(), 4)
		want(t, "fork", []int{len(b.Kids), len(b.Text), b.Props[0].Value.Items[0].Int}, []int{20, 20, c.Number()}, 0, 0)
	}
}

// Z9

func TestGreatNumbers(t *testing.T) {
	c := knowing(1, read(zoo...)...)
	for _, n := range []int{math.MinInt, math.MinInt + 1, math.MinInt32, math.MaxInt32, math.MaxInt - 1, math.MaxInt} {
		for i, change := range []func(o *copy.Op){
			func(o *copy.Op) { o.Stamp.Time = n }, func(o *copy.Op) { o.Stamp.Copy = n }, func(o *copy.Op) { o.Id = n }, func(o *copy.Op) { o.Parent = n }, func(o *copy.Op) { o.Left = n },
		} {
			wantError(t, fmt.Sprint(i, n), copy.CheckOp(changed(inserted(at(1, 0), 16, 0, 0, ""), change)), api.ErrRange)
		}
		for _, s := range []copy.Spot{spot(n, 0, 0), spot(1, n, 0), spot(1, 0, n)} {
			wantError(t, fmt.Sprint(s), copy.CheckOp(typed(at(2, 0), 1, s, "x")), api.ErrStamp)
			wantError(t, fmt.Sprint(s), copy.CheckOp(erased(at(2, 0), 1, s)), api.ErrStamp)
		}
		wantError(t, "Restore", second(c.Restore(n, 0, 0)), api.ErrNone)
		wantError(t, "Restore", second(c.Restore(1, n, 0)), api.ErrNone)
		wantError(t, "Spots", second(c.Spots(n)), api.ErrNone)
		wantError(t, "New", second(copy.New(n)), api.ErrRange)
		wantError(t, "Fork", second(c.Fork(n)), api.ErrRange)
		for _, o := range []tree.Op{insert(n, 0, 0, ""), insert(17, 0, n, ""), move(4, 1, n), edit(4, n, 1, ""), edit(4, 0, n, "")} {
			wantError(t, fmt.Sprint(o), second(c.Do(o)), api.ErrRange)
		}
		for _, o := range []tree.Op{insert(17, n, 0, ""), move(n, 1, 0), move(1, n, 0), remove(n), edit(n, 0, 0, ""), set(n, "n", num(1))} {
			wantError(t, fmt.Sprint(o), second(c.Do(o)), api.ErrNone)
		}
	}
}
