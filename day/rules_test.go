package day_test

import (
	"fmt"
	"math"
	"reflect"
	"runtime/debug"
	"slices"
	"strings"
	"sync"
	"testing"
	"time"

	"florilegium/api"
	"florilegium/day"
	"florilegium/tree"
)

// The tests of this file hold the package against the general rules, Z1 to Z9.
// (Z4 stands with the errors of each function, Z10 with what is read, Z11 with lists that rise.)

// A result is what one call returns. Where it has no error, bad is OK.
type result struct {
	name  string
	value any
	bad   api.Errno
}

// An argument is what the functions are asked.
type argument struct {
	rule        day.Rule
	at, to      int
	year, month int
	days        []int
	base        []api.Block
	id          int
	text        string
	template    string
	values      []day.Pair
}

func found[T any](name string) func(value T, bad api.Errno) result {
	return func(value T, bad api.Errno) result { return result{name, value, bad} }
}

// callAll calls every function, and gives all results.
func callAll(a argument) []result {
	all := []result{
		{"CheckRule", 0, day.CheckRule(a.rule)}, found[string]("RuleText")(day.RuleText(a.rule)), found[day.Rule]("ReadRule")(day.ReadRule(a.text)),
		found[bool]("Occurs")(day.Occurs(a.rule, a.at)), found[int]("Next")(day.Next(a.rule, a.at)), found[int]("Before")(day.Before(a.rule, a.at)),
		found[[]int]("Between")(day.Between(a.rule, a.at, a.to)), found[int]("Number")(day.Number(a.rule, a.at)),
		found[[][]int]("Grid")(day.Grid(a.year, a.month)), found[int]("Streak")(day.Streak(a.days, a.at)),
		found[string]("Title")(day.Title(a.at)), found[int]("CheckTemplate")(day.CheckTemplate(a.template)),
		found[[]string]("Fields")(day.Fields(a.template)), found[string]("Fill")(day.Fill(a.template, a.values, a.at)),
	}
	return append(all, callWithBase(a)...)
}

func callWithBase(a argument) []result {
	return []result{
		found[[]day.Task]("Tasks")(day.Tasks(a.base)), found[[]api.Prop]("Start")(day.Start(a.base, a.id)), found[[]api.Prop]("Do")(day.Do(a.base, a.id, a.at)),
		found[[]api.Prop]("Skip")(day.Skip(a.base, a.id)), found[[]api.Prop]("Reopen")(day.Reopen(a.base, a.id)),
		found[[]day.Entry]("Agenda")(day.Agenda(a.base, a.at, a.to)), found[[]int]("Late")(day.Late(a.base, a.at)),
		found[int]("Daily")(day.Daily(a.base, a.at)), found[[]int]("Dailies")(day.Dailies(a.base)),
	}
}

// argument gives arguments of which most are right.
func (d *dice) argument() argument {
	a := argument{rule: d.rule(), at: d.day(), year: 2001 + d.next(273), month: 1 + d.next(12), base: d.base(9), template: d.template(), values: d.values()}
	a.to = min(api.MaxDay, a.at+d.next(400))
	for range d.next(20) {
		a.days = append(a.days, max(0, a.at-d.next(15)))
	}
	a.id = one(d, a.base...).Id
	a.text = must(day.RuleText(a.rule))
	return a
}

// wild gives arguments of which some are wrong.
func (d *dice) wild() argument {
	a := d.argument()
	for range 1 + d.next(3) {
		switch d.next(9) {
		case 0:
			a.rule = d.wildRule()
		case 1:
			a.at = d.wildNumber()
		case 2:
			a.to = d.wildNumber()
		case 3:
			a.year, a.month = d.wildNumber(), d.wildNumber()
		case 4:
			a.days = append(a.days, d.wildNumber())
		case 5:
			a.base = d.wildBase()
		case 6:
			a.id = d.wildNumber()
		case 7:
			a.text = d.spoilt(a.text) + one(d, "", "x", strings.Repeat(" ", 2000))
		case 8:
			a.values = append(a.values, day.Pair{Name: one(d, "", "a", "A"), Value: strings.Repeat("x", 2001)})
		}
	}
	return a
}

// wildBase gives a base with something wrong in it, or, by chance, a right one.
func (d *dice) wildBase() []api.Block {
	l := d.base(9)
	b := &l[d.next(len(l))]
	switch d.next(6) {
	case 0:
		b.Id = d.wildNumber()
	case 1:
		b.Parent = d.wildNumber()
	case 2:
		b.Kids = append(b.Kids, d.wildNumber())
	case 3:
		b.Text = one(d, "\n", "\x7f", strings.Repeat("x", api.MaxString+1))
	case 4:
		b.Props = append(b.Props, api.Prop{Name: one(d, "", "A", "task"), Value: api.Value{Kind: d.next(10) - 1, Int: d.wildNumber()}})
	case 5:
		l = l[:d.next(len(l)+1)]
	}
	return l
}

// isNothing asks whether a value is what a result has beside an error.
func isNothing(v any) bool {
	got := reflect.ValueOf(v)
	return got.IsZero() || got.Kind() == reflect.Slice && got.Len() == 0
}

// Z1, Z3, Z9

func TestCallsReturnAndErrorsHaveZeroValues(t *testing.T) {
	var d dice
	wrong := map[string]int{}
	for range 5000 {
		a := d.wild()
		for _, r := range callAll(a) {
			if r.bad == api.OK {
				continue
			}
			wrong[r.name]++
			// CheckTemplate has a position beside ErrSyntax.
			if !isNothing(r.value) && (r.name != "CheckTemplate" || r.bad != api.ErrSyntax) {
				t.Fatalf("%s: %v beside %d", r.name, r.value, r.bad)
			}
		}
		for _, r := range callWithBase(a) {
			if bad := tree.Check(a.base); bad != api.OK && r.bad != bad {
				t.Fatal(r.name, r.bad, bad)
			}
		}
	}
	for _, name := range strings.Fields("CheckRule RuleText ReadRule Occurs Next Before Between Number Grid Streak Tasks Start Do Skip Reopen Agenda Late Title Daily Dailies CheckTemplate Fields Fill") {
		if wrong[name] < 100 {
			t.Error(name, wrong[name])
		}
	}
}

// Values that are nested deeper than calls could go if each had a frame.
func TestDeepValues(t *testing.T) {
	defer debug.SetMaxStack(debug.SetMaxStack(1 << 24))
	inner := api.Value{Kind: api.String, Text: "todo"}
	for range 400_000 {
		inner = api.Value{Kind: api.List, Items: []api.Value{inner}}
	}
	l := []api.Block{{Kids: []int{1}}, {Id: 1, Props: []api.Prop{{Name: "task", Value: inner}}}}
	for _, r := range callWithBase(argument{base: l, id: 1}) {
		wantError(t, r.name, r.bad, api.ErrKind)
	}
}

func TestLongArguments(t *testing.T) {
	many := make([]int, 1<<22)
	months := day.Rule{Unit: day.Months, Every: 1, Until: -1}
	for name, bad := range map[string]api.Errno{
		"Weekdays": day.CheckRule(changed(months, func(r *day.Rule) { r.Nth, r.Weekdays = 1, many })), "Dates": day.CheckRule(changed(months, func(r *day.Rule) { r.Dates = rising(-31, 99) })),
	} {
		wantError(t, name, bad, map[string]api.Errno{"Weekdays": api.ErrOrder, "Dates": api.ErrRange}[name])
	}
	wantError(t, "Streak", second(day.Streak(many, 0)), api.ErrLarge)
	wantError(t, "Fill", second(day.Fill("", make([]day.Pair, 1<<20), 0)), api.ErrLarge)
	wantError(t, "Fields", second(day.Fields(strings.Repeat("{", 1<<24))), api.ErrLarge)
}

// Z6

func TestGreatBases(t *testing.T) {
	begin := time.Now()
	every := day.Rule{Unit: day.Days, Every: 1, Until: -1, Skip: rising(0, day.MaxSkip)}
	for _, r := range []day.Rule{every, changed(every, func(r *day.Rule) { r.Count = day.MaxDays })} {
		l := []api.Block{{}}
		for page := 1; page < api.MaxBlocks; page += tree.MaxKids {
			l[0].Kids = append(l[0].Kids, page)
			l = append(l, api.Block{Id: page})
			for id := page + 1; id < min(api.MaxBlocks, page+tree.MaxKids); id++ {
				l[page].Kids = append(l[page].Kids, id)
				l = append(l, api.Block{Id: id, Parent: page, Props: props("due:: 2001-01-01", `repeat:: "`+must(day.RuleText(r))+`"`, `task:: "todo"`)})
			}
		}
		tasks := len(l) - 1 - len(l[0].Kids)
		got, bad := day.Agenda(l, 100, 500)
		want(t, "Agenda", len(got), 402*tasks, bad, api.OK)
		got, bad = day.Agenda(l, 4990, 5002)
		if r.Count > 0 {
			want(t, "Agenda", len(got), 11*tasks, bad, api.OK)
		} else {
			want(t, "Agenda", len(got), 14*tasks, bad, api.OK)
		}
		late, bad := day.Late(l, api.MaxDay)
		want(t, "Late", len(late), tasks, bad, api.OK)
	}
	for range 100 {
		number, bad := day.Number(every, api.MaxDay)
		want(t, "Number", number, api.MaxDay+1-day.MaxSkip, bad, api.OK)
		before, bad := day.Before(every, api.MaxDay)
		want(t, "Before", before, api.MaxDay-1, bad, api.OK)
	}
	if took := time.Since(begin); took > time.Minute {
		t.Error(took)
	}
}

// A rule that began long ago needs no more time than another one.
func TestManyCallsOfOldRules(t *testing.T) {
	begin := time.Now()
	for unit := day.Days; unit <= day.Years; unit++ {
		r := day.Rule{Unit: unit, Every: 1, Until: -1}
		for at := api.MaxDay - 400; at < api.MaxDay-350; at++ {
			for range 100 {
				next, bad := day.Next(r, at)
				if occurs, _ := day.Occurs(r, next); bad != api.OK || !occurs {
					t.Fatal(r, at, next, bad)
				}
			}
		}
	}
	if took := time.Since(begin); took > 10*time.Second {
		t.Error(took)
	}
}

// Z2

// A memory is that of a list, up to its capacity.
type memory struct {
	from, to uintptr
	what     string
}

// memoryOf gives the memory of all lists in something.
func memoryOf(what string, v reflect.Value) []memory {
	var all []memory
	switch v.Kind() {
	case reflect.Struct:
		for i := range v.NumField() {
			all = append(all, memoryOf(what+"."+v.Type().Field(i).Name, v.Field(i))...)
		}
	case reflect.Slice:
		if size := uintptr(v.Cap()) * v.Type().Elem().Size(); size > 0 {
			all = append(all, memory{v.Pointer(), v.Pointer() + size, what})
		}
		for i := range v.Len() {
			all = append(all, memoryOf(fmt.Sprintf("%s[%d]", what, i), v.Index(i))...)
		}
	}
	return all
}

// shared tells which two of some lists share memory.
func shared(all []memory) string {
	slices.SortFunc(all, func(a, b memory) int { return int(int64(a.from) - int64(b.from)) })
	for i := 1; i < len(all); i++ {
		if all[i].from < all[i-1].to {
			return all[i-1].what + " and " + all[i].what
		}
	}
	return ""
}

// roomy gives something with lists that have room behind their ends, the empty ones too. What is there is not zero.
func roomy[T any](v T) T {
	copied := reflect.New(reflect.TypeFor[T]()).Elem()
	copied.Set(roomyValue(reflect.ValueOf(&v).Elem()))
	return copied.Interface().(T)
}

func roomyValue(v reflect.Value) reflect.Value {
	copied := reflect.New(v.Type()).Elem()
	switch v.Kind() {
	case reflect.Slice:
		copied.Set(reflect.MakeSlice(v.Type(), v.Len()+3, v.Len()+3))
		for i := range v.Len() {
			copied.Index(i).Set(roomyValue(v.Index(i)))
		}
		for i := range 3 {
			copied.Index(v.Len() + i).Set(rubbish(v.Type().Elem()))
		}
		copied.Set(copied.Slice(0, v.Len()))
	case reflect.Struct:
		for i := range v.NumField() {
			copied.Field(i).Set(roomyValue(v.Field(i)))
		}
	default:
		copied.Set(v)
	}
	return copied
}

func rubbish(t reflect.Type) reflect.Value {
	for _, v := range []any{1, api.Block{Id: 77, Text: "2024-03-06"}, api.Prop{Name: "task", Value: api.Value{Kind: api.Number}}, api.Value{Kind: api.Number, Int: 7}, day.Pair{Name: "a", Value: "b"}} {
		if reflect.TypeOf(v) == t {
			return reflect.ValueOf(v)
		}
	}
	panic(t)
}

// roomyArgument gives arguments whose lists have room.
func roomyArgument(a argument) argument {
	a.rule, a.days, a.base, a.values = roomy(a.rule), roomy(a.days), roomy(a.base), roomy(a.values)
	return a
}

// full gives what lists are up to their capacities.
func full(v reflect.Value) string {
	switch v.Kind() {
	case reflect.Slice:
		s := fmt.Sprint(v.Len(), "[")
		for i := range v.Cap() {
			s += full(v.Slice(0, v.Cap()).Index(i)) + " "
		}
		return s + "]"
	case reflect.Struct:
		s := "{"
		for i := range v.NumField() {
			s += full(v.Field(i)) + " "
		}
		return s + "}"
	}
	return fmt.Sprint(v)
}

func TestArgumentsStayAndResultsAreNew(t *testing.T) {
	var d dice
	for range 1000 {
		a := roomyArgument(one(&d, d.argument(), d.wild()))
		given := reflect.ValueOf(a)
		before := full(given)
		memories := memoryOf("arguments", given)
		for i, r := range callAll(a) {
			memories = append(memories, memoryOf(fmt.Sprint(r.name, " ", i), reflect.ValueOf(r.value))...)
		}
		if full(given) != before {
			t.Fatal("an argument has changed: ", before)
		}
		if names := shared(memories); names != "" {
			t.Fatal(names, " share memory")
		}
	}
}

// Z5

func TestEmptyAndNilAreTheSame(t *testing.T) {
	var d dice
	for range 1000 {
		a := one(&d, d.argument(), d.wild())
		thin := a
		thin.rule, thin.days, thin.base, thin.values = plain(a.rule), plain(a.days), plain(a.base), plain(a.values)
		all, again := callAll(thin), callAll(roomyArgument(a))
		for i, r := range all {
			if x, y := fmt.Sprint(r), fmt.Sprint(again[i]); x != y {
				t.Fatalf("%s and %s", x, y)
			}
		}
	}
}

// Z7, and Z2: a call depends on its arguments alone

func TestSameArgumentsGiveSameResults(t *testing.T) {
	run := func() [][]result {
		var d dice
		var all [][]result
		for range 300 {
			all = append(all, callAll(d.argument()))
		}
		return all
	}
	want := run()
	got := make([][][]result, 4)
	var group sync.WaitGroup
	for i := range got {
		group.Go(func() { got[i] = run() })
	}
	group.Wait()
	for i := range got {
		if !reflect.DeepEqual(got[i], want) {
			t.Error("results differ")
		}
	}
}

// Z9

func TestGreatNumbers(t *testing.T) {
	r := day.Rule{Unit: day.Days, Every: 1, Until: -1}
	for _, n := range []int{math.MinInt, math.MinInt + 1, math.MaxInt - 1, math.MaxInt} {
		for name, change := range map[string]func(r *day.Rule){
			"Every": func(r *day.Rule) { r.Every = n }, "From": func(r *day.Rule) { r.From = n }, "Until": func(r *day.Rule) { r.Until = n },
			"Count": func(r *day.Rule) { r.Count = n }, "Skip": func(r *day.Rule) { r.Skip = []int{n} },
		} {
			wantError(t, fmt.Sprint(name, n), day.CheckRule(changed(r, change)), api.ErrRange)
		}
		for _, other := range []int{math.MinInt, -1, 0, math.MaxInt} {
			wantError(t, "Between", second(day.Between(r, n, other)), api.ErrRange)
			wantError(t, "Between", second(day.Between(r, other, n)), api.ErrRange)
			wantError(t, "Agenda", second(day.Agenda(tree.Empty(), n, other)), api.ErrRange)
			wantError(t, "Agenda", second(day.Agenda(tree.Empty(), other, n)), api.ErrRange)
		}
	}
}

// Z12: weeks, and months that are counted from the end, go back over the beginning of what they are counted in.
func TestQuotients(t *testing.T) {
	wantDays(t, from("2001-01-07", "1 week", "on mon"), "2001-01-08 2001-01-15 ..")
	wantDays(t, from("2001-01-01", "1 month", "on -5th mon"), "2001-01-01 2001-04-02 ..")
}
