package ask_test

import (
	"fmt"
	"math"
	"reflect"
	"runtime/debug"
	"slices"
	"strings"
	"sync"
	"testing"
	"time"

	"florilegium/api"
	"florilegium/ask"
	"florilegium/tree"
)

// The tests of this file hold the package against the general rules, Z1 to Z10.
// (Z4 stands with the errors of each function, Z10 with what is read, Z11 with sorts. Of Z12 the package has no use.)

// A result is what one call returns. Where it has no error, bad is OK.
type result struct {
	name  string
	value any
	bad   api.Errno
}

// An argument is what the functions are asked beside the base.
type argument struct {
	c       ask.Cond
	q       ask.Question
	id      int
	s       string
	ids     []int
	columns []string
	groups  []ask.Group
	ops     []tree.Op
}

func found[T any](name string) func(value T, bad api.Errno) result {
	return func(value T, bad api.Errno) result { return result{name, value, bad} }
}

// callAll calls every function, and gives all results.
func callAll(l []api.Block, a argument) []result {
	all := []result{
		{"CheckCond", ask.CheckCond(a.c), 0}, {"CheckQuestion", ask.CheckQuestion(a.q), 0}, {"SameGroups", ask.SameGroups(a.groups, a.groups), 0},
		found[string]("CondText")(ask.CondText(a.c)), found[ask.Cond]("ReadCond")(ask.ReadCond(a.s)),
		found[string]("QuestionText")(ask.QuestionText(a.q)), found[ask.Question]("ReadQuestion")(ask.ReadQuestion(a.s)),
	}
	all = append(all, callWithBase(l, a)...)
	x, bad := ask.NewIndex(l)
	all = append(all, result{"NewIndex", x == nil, bad})
	live, liveBad := ask.NewLive(l, a.q)
	all = append(all, result{"NewLive", live == nil, liveBad})
	for _, o := range a.ops {
		if bad == api.OK {
			all = append(all, result{"Index.Apply", 0, x.Apply(o)})
			all = append(all, callIndex(x, a)...)
		}
		if liveBad == api.OK {
			all = append(all, found[bool]("Live.Apply")(live.Apply(o)), result{"Live.Groups", live.Groups(), 0}, result{"Live.Groups", live.Groups(), 0})
		}
	}
	return all
}

func callWithBase(l []api.Block, a argument) []result {
	return []result{
		found[bool]("Holds")(ask.Holds(l, a.c, a.id)), found[[]int]("Find")(ask.Find(l, a.c)),
		found[[]ask.Group]("Ask")(ask.Ask(l, a.q)), found[[][]api.Value]("Table")(ask.Table(l, a.ids, a.columns)),
	}
}

func callIndex(x *ask.Index, a argument) []result {
	return []result{
		{"Index.Base", x.Base(), 0}, {"Index.Base", x.Base(), 0}, found[ask.Plan]("Index.Plan")(x.Plan(a.c)), found[[]ask.Group]("Index.Ask")(x.Ask(a.q)),
	}
}

// argument gives right arguments.
func (d *dice) argument(l []api.Block) argument {
	a := argument{c: d.cond(4), q: d.question(), columns: []string{"m", "@text", "n"}[:d.next(4)], ids: tree.Order(l)}
	if len(a.ids) > 0 {
		a.id = one(d, a.ids...)
	}
	a.s = must(ask.CondText(a.c))
	if d.next(2) == 0 {
		a.s = must(ask.QuestionText(a.q))
	}
	a.groups = must(ask.Ask(l, a.q))
	for range 3 {
		a.ops = append(a.ops, d.op(l))
	}
	return a
}

// wild gives arguments of which something may be wrong.
func (d *dice) wild(l []api.Block) argument {
	a := d.argument(d.base(5))
	a.c = d.wildCond()
	switch d.next(4) {
	case 0:
		a.q.Where = d.wildCond()
	case 1:
		a.q.Most = d.wildNumber()
	case 2:
		a.q.Sorts = append(a.q.Sorts, ask.Sort{By: one(d, "", "@", "m", "A")})
	case 3:
		a.q.Group = one(d, "A", "@id", "m")
	}
	a.id, a.s = d.wildNumber(), one(d, "", "\n", "where \n", "all(", `says "`, ".a = ", "where all()\n", a.s+" ")
	a.ids = append(a.ids, d.wildNumber())
	a.columns = append(a.columns, one(d, "", "m", "@"))
	a.groups = append(a.groups, ask.Group{Value: api.Value{Kind: 99, Items: []api.Value{{Items: []api.Value{{}}}}}, Ids: []int{d.wildNumber()}})
	a.ops = append(a.ops, tree.Op{Kind: d.wildNumber(), Id: d.wildNumber(), From: d.wildNumber(), To: d.wildNumber(), At: d.wildNumber()})
	return a
}

// wildBase gives a right base, or one with something wrong, or with any fields.
func (d *dice) wildBase() []api.Block {
	l := d.base(9)
	if d.next(2) == 0 {
		return l
	}
	for range 1 + d.next(2) {
		b := &l[d.next(len(l))]
		switch d.next(6) {
		case 0:
			b.Id = d.wildNumber()
		case 1:
			b.Parent = d.wildNumber()
		case 2:
			b.Kids = append(b.Kids, d.wildNumber())
		case 3:
			b.Text = one(d, "\n", "\x7f", strings.Repeat("x", api.MaxString+1))
		case 4:
			b.Props = append(b.Props, api.Prop{Name: one(d, "", "A", "alias"), Value: api.Value{Kind: d.next(10) - 1, Int: d.wildNumber()}})
		case 5:
			l = l[:d.next(len(l)+1)]
		}
		if len(l) == 0 {
			return nil
		}
	}
	return l
}

// isNothing asks whether a value is what a result has beside an error.
func isNothing(v any) bool {
	got := reflect.ValueOf(v)
	return got.IsZero() || got.Kind() == reflect.Slice && got.Len() == 0
}

// Z1, Z3, Z9

func TestCallsReturnAndErrorsHaveZeroValues(t *testing.T) {
	var d dice
	wrong := map[string]int{}
	for range 3000 {
		l := d.wildBase()
		a := d.wild(l)
		for _, r := range callAll(l, a) {
			if r.name == "NewIndex" || r.name == "NewLive" {
				r.value = r.value == (r.bad == api.OK) // an object just where there is no error
			}
			if r.bad != api.OK {
				wrong[r.name]++
				if !isNothing(r.value) {
					t.Fatalf("%s: %v beside %d", r.name, r.value, r.bad)
				}
			}
		}
		for _, r := range callWithBase(l, a) {
			if bad := tree.Check(l); bad != api.OK && r.bad != bad {
				t.Fatal(r.name, r.bad, bad)
			}
		}
	}
	for _, name := range strings.Fields("CondText ReadCond QuestionText ReadQuestion Holds Find Ask Table NewIndex NewLive Index.Apply Index.Plan Index.Ask Live.Apply") {
		if wrong[name] < 100 {
			t.Error(name, wrong[name])
		}
	}
}

// Values and conditions that are nested deeper than calls could go if each had a frame.
func TestDeepArguments(t *testing.T) {
	defer debug.SetMaxStack(debug.SetMaxStack(1 << 24))
	inner := str("a")
	for range 400_000 {
		inner = list(inner)
	}
	groups := []ask.Group{group(inner, 1)}
	if !ask.SameGroups(groups, []ask.Group{group(inner, 1)}) || ask.SameGroups(groups, []ask.Group{group(list(inner), 1)}) {
		t.Error("groups")
	}
	a := argument{c: value(ask.Equal, "a", inner), ids: []int{1}, groups: groups, ops: []tree.Op{set(1, "a", inner)}}
	a.q.Where = within(ask.Not, 400_000, a.c)
	wantError(t, "deep value", ask.CheckCond(a.c), api.ErrKind)
	wantError(t, "deep condition", ask.CheckQuestion(a.q), api.ErrLarge)
	callAll(example(), a)
	l := []api.Block{{Kids: []int{1}}, {Id: 1, Props: []api.Prop{{Name: "a", Value: inner}}}}
	for _, r := range callWithBase(l, a) {
		wantError(t, r.name, r.bad, api.ErrKind)
	}
}

// Objects that no function has returned have an empty list for a base.
func TestZeroObjects(t *testing.T) {
	var x ask.Index
	var live ask.Live
	wantError(t, "Index.Apply", x.Apply(insert(1, 0, 0, "")), api.ErrForm)
	changed, bad := live.Apply(insert(1, 0, 0, ""))
	want(t, "Live.Apply", changed, false, bad, api.ErrForm)
	p, bad := x.Plan(page())
	want(t, "Plan", p, ask.Plan{}, bad, api.OK)
	groups, bad := x.Ask(ask.Question{Where: page()})
	want(t, "Ask", groups, []ask.Group{{}}, bad, api.OK)
	if len(x.Base()) > 0 || len(live.Groups()) > 0 {
		t.Error(x.Base(), live.Groups())
	}
}

// Z6

func TestGreatBases(t *testing.T) {
	begin := time.Now()
	var l []api.Prop
	for i := range api.MaxProps {
		items := slices.Repeat([]api.Value{num(i), str(strings.Repeat("x", 100))}, api.MaxItems/2)
		l = append(l, api.Prop{Name: fmt.Sprint("p", 10+i), Value: list(items...)})
	}
	q := question("where not(.p29 = 1)", "sort p28 up", "sort p29 down", "sort @text up", "sort @depth down", "sort p27 up", "group p10")
	for _, piece := range []string{"[[a]]", "#a/b/c/d/e ", "ab "} {
		base := crowd(strings.Repeat(piece, api.MaxString/len(piece)), l...)
		live := must(ask.NewLive(base, q))
		for i := range 6 {
			changed, bad := live.Apply(edit(7+i, 0, 1, "y"))
			want(t, "Apply", changed, true, bad, api.OK)
		}
		x := must(ask.NewIndex(base))
		wantPlan(t, x, "all(has(p20), .p21 = 1, links \"a\", tag \"a/b\")", ".p21 = 1", 0)
		want(t, "Ask", len(must(x.Ask(q))), 1, 0, 0)
		table, bad := ask.Table(base, tree.Order(base), []string{"p10", "p29", "p10", "p29", "p10", "p29", "p10", "p29", "@text", "@id"})
		want(t, "Table", len(table), len(base)-1, bad, api.OK)
	}
	if took := time.Since(begin); took > time.Minute {
		t.Error(took)
	}
}

// Z2

// A memory is that of a list, up to its capacity.
type memory struct {
	from, to uintptr
	what     string
}

// memoryOf gives the memory of all lists in something.
func memoryOf(what string, v reflect.Value) []memory {
	var all []memory
	switch v.Kind() {
	case reflect.Struct:
		for i := range v.NumField() {
			all = append(all, memoryOf(what+"."+v.Type().Field(i).Name, v.Field(i))...)
		}
	case reflect.Slice:
		if size := uintptr(v.Cap()) * v.Type().Elem().Size(); size > 0 {
			all = append(all, memory{v.Pointer(), v.Pointer() + size, what})
		}
		for i := range v.Len() {
			all = append(all, memoryOf(fmt.Sprintf("%s[%d]", what, i), v.Index(i))...)
		}
	}
	return all
}

// shared tells which two of some lists share memory.
func shared(all []memory) string {
	slices.SortFunc(all, func(a, b memory) int { return int(int64(a.from) - int64(b.from)) })
	for i := 1; i < len(all); i++ {
		if all[i].from < all[i-1].to {
			return all[i-1].what + " and " + all[i].what
		}
	}
	return ""
}

// roomy gives something with lists that have room behind their ends, the empty ones too. What is there is not zero.
func roomy[T any](v T) T {
	copied := reflect.New(reflect.TypeFor[T]()).Elem()
	copied.Set(roomyValue(reflect.ValueOf(&v).Elem()))
	return copied.Interface().(T)
}

func roomyValue(v reflect.Value) reflect.Value {
	copied := reflect.New(v.Type()).Elem()
	switch v.Kind() {
	case reflect.Slice:
		copied.Set(reflect.MakeSlice(v.Type(), v.Len()+3, v.Len()+3))
		for i := range v.Len() {
			copied.Index(i).Set(roomyValue(v.Index(i)))
		}
		for i := range 3 {
			copied.Index(v.Len() + i).Set(rubbish(v.Type().Elem()))
		}
		copied.Set(copied.Slice(0, v.Len()))
	case reflect.Struct:
		for i := range v.NumField() {
			if field := v.Type().Field(i); field.IsExported() {
				copied.Field(i).Set(roomyValue(v.Field(i)))
			}
		}
	default:
		copied.Set(v)
	}
	return copied
}

func rubbish(t reflect.Type) reflect.Value {
	for _, v := range []any{1, "m", api.Block{Id: 77, Text: "[[cat]] #t"}, api.Prop{Name: "m", Value: num(7)}, num(7), page(),
		ask.Sort{By: "@id"}, ask.Question{Where: page()}, group(num(7), 7), insert(77, 0, 0, "x")} {
		if reflect.TypeOf(v) == t {
			return reflect.ValueOf(v)
		}
	}
	panic(t)
}

// full gives what lists are up to their capacities.
func full(v reflect.Value) string {
	switch v.Kind() {
	case reflect.Slice:
		s := fmt.Sprint(v.Len(), "[")
		for i := range v.Cap() {
			s += full(v.Slice(0, v.Cap()).Index(i)) + " "
		}
		return s + "]"
	case reflect.Struct:
		s := "{"
		for i := range v.NumField() {
			s += full(v.Field(i)) + " "
		}
		return s + "}"
	}
	return fmt.Sprint(v)
}

// roomyArgument gives arguments whose lists have room.
func roomyArgument(a argument) argument {
	a.c, a.q, a.ids, a.columns, a.groups, a.ops = roomy(a.c), roomy(a.q), roomy(a.ids), roomy(a.columns), roomy(a.groups), roomy(a.ops)
	return a
}

func TestArgumentsStayAndResultsAreNew(t *testing.T) {
	var d dice
	for range 1000 {
		l := roomy(d.base(9))
		a := roomyArgument(d.argument(l))
		given := reflect.ValueOf(struct {
			l []api.Block
			a argument
		}{l, a})
		before := full(given)
		memories := memoryOf("arguments", given)
		for i, r := range callAll(l, a) {
			memories = append(memories, memoryOf(fmt.Sprint(r.name, " ", i), reflect.ValueOf(r.value))...)
		}
		if full(given) != before {
			t.Fatal("an argument has changed: ", before)
		}
		if names := shared(memories); names != "" {
			t.Fatal(names, " share memory")
		}
	}
}

// spoil changes all that is in lists.
func spoil(v reflect.Value) {
	switch v.Kind() {
	case reflect.Slice:
		for i := range v.Len() {
			spoil(v.Index(i))
			v.Index(i).Set(rubbish(v.Type().Elem()))
		}
	case reflect.Struct:
		for i := range v.NumField() {
			spoil(v.Field(i))
		}
	}
}

// An object keeps neither what it was given, nor what it has given.
func TestObjectsKeepTheirOwn(t *testing.T) {
	var d dice
	for range 1500 {
		l := d.base(9)
		a := d.argument(l)
		base, questions, ops := plain(l), []ask.Question{plain(a.q)}, plain(a.ops)
		x, live := must(ask.NewIndex(base)), must(ask.NewLive(base, questions[0]))
		for _, o := range ops {
			if next, bad := tree.Apply(l, o); bad == api.OK {
				l = next
				x.Apply(o)
				live.Apply(o)
			}
		}
		for _, given := range []any{base, questions, ops} {
			spoil(reflect.ValueOf(given))
		}
		for range 2 {
			now, groups, asked := x.Base(), live.Groups(), must(x.Ask(a.q))
			want(t, "Base", now, l, 0, 0)
			want(t, "Groups", groups, must(ask.Ask(l, a.q)), 0, 0)
			want(t, "Ask", asked, groups, 0, 0)
			for _, result := range []any{now, groups, asked} {
				spoil(reflect.ValueOf(result))
			}
			o := insert(400+len(l), 0, 0, "x")
			l = must(tree.Apply(l, o))
			wantError(t, "Apply", x.Apply(o), api.OK)
			_, bad := live.Apply(o)
			wantError(t, "Apply", bad, api.OK)
		}
		if t.Failed() {
			t.FailNow()
		}
	}
}

// Z5

func TestEmptyAndNilAreTheSame(t *testing.T) {
	var d dice
	for range 1000 {
		l := d.wildBase()
		a := one(&d, d.argument(d.base(9)), d.wild(l))
		thin := a
		thin.c, thin.q, thin.ids, thin.columns, thin.groups, thin.ops = plain(a.c), plain(a.q), plain(a.ids), plain(a.columns), plain(a.groups), plain(a.ops)
		all, again := callAll(plain(l), thin), callAll(roomy(l), roomyArgument(a))
		for i, r := range all {
			if x, y := fmt.Sprint(r), fmt.Sprint(again[i]); x != y {
				t.Fatalf("%s and %s", x, y)
			}
		}
	}
}

// Z7, and Z2: a call depends on its arguments alone

func TestSameArgumentsGiveSameResults(t *testing.T) {
	run := func() [][]result {
		var d dice
		var all [][]result
		for range 300 {
			l := d.base(20)
			all = append(all, callAll(l, d.argument(l)))
		}
		return all
	}
	want := run()
	got := make([][][]result, 4)
	var group sync.WaitGroup
	for i := range got {
		group.Go(func() { got[i] = run() })
	}
	group.Wait()
	for i := range got {
		if !reflect.DeepEqual(got[i], want) {
			t.Error("results differ")
		}
	}
}

// Z9

func TestGreatNumbers(t *testing.T) {
	for _, n := range []int{math.MinInt, math.MinInt + 1, math.MaxInt - 1, math.MaxInt} {
		wantError(t, "deep", ask.CheckCond(number(ask.Deep, n)), api.ErrRange)
		wantError(t, "under", ask.CheckCond(number(ask.Under, n)), api.ErrRange)
		wantError(t, "most", ask.CheckQuestion(ask.Question{Where: page(), Most: n}), api.ErrRange)
		_, bad := ask.Holds(example(), page(), n)
		wantError(t, "Holds", bad, api.ErrNone)
		_, bad = ask.Table(example(), []int{n}, nil)
		wantError(t, "Table", bad, api.ErrNone)
	}
}
