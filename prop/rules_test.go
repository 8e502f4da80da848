package prop_test

import (
	"math"
	"reflect"
	"runtime/debug"
	"slices"
	"strings"
	"sync"
	"testing"

	"florilegium/api"
	"florilegium/prop"
)

// The tests of this file hold the package against the general rules, Z1 to Z9.
// (Z10 stands with what is read, Z11 with Merge, Z12 with Fold.)

// callAll calls every function with a string, a number, and three values, and gives all results.
func callAll(s string, n int, values ...api.Value) []any {
	var all []any
	keep := func(results ...any) { all = append(all, results...) }
	keep2 := func(result any, bad api.Errno) { all = append(all, result, bad) }
	a, b, c := values[0], values[1], values[2]
	for _, v := range values {
		keep(prop.CheckValue(v), prop.Compare(v, a), prop.In(v, b, c), prop.Meets(v, b))
		text, bad := prop.Text(v)
		keep(text, bad)
	}
	v, bad := prop.Read(s)
	keep(v, bad)
	for _, kind := range []int{n, 0, 1, 2, 3, 4, 5, 6, 7} {
		v, bad := prop.ReadAs(kind, s, 8465)
		keep(v, bad)
	}
	v, bad = prop.ReadAs(api.Date, s, n)
	keep(v, bad)
	callCalendar(s, n, keep)
	l := []api.Prop{pr("a", a), pr(s, b), pr("c", c)}
	keep(prop.CheckName(s), prop.CheckProps(l))
	got, ok := prop.Get(l, s)
	keep(got, ok)
	put, bad := prop.Put(l, s, a)
	keep2(put, bad)
	put, bad = prop.Put(nil, "a", a)
	keep2(put, bad)
	dropped, bad := prop.Drop(l, s)
	keep2(dropped, bad)
	text, bad := prop.PropsText(l)
	keep2(text, bad)
	read, line, bad := prop.ReadProps(s)
	keep(read, line, bad)
	types := []prop.Type{{Name: "a", Kind: n, Choices: []string{s}}, {Name: s, Kind: api.Number, Least: n, Most: -n}}
	faults, bad := prop.Faults(types, l)
	keep(prop.CheckTypes(types), faults, bad)
	for _, how := range []int{n, 1, 2, 3, 4, 5, 6} {
		v, bad := prop.Fold(how, values)
		keep(v, bad)
	}
	merged, names, bad := prop.Merge(l[:1], l[1:2], l[2:])
	keep(merged, names, bad)
	merged, names, bad = prop.Merge([]api.Prop{pr("a", a)}, []api.Prop{pr("a", b)}, []api.Prop{pr("a", c)})
	keep(merged, names, bad)
	return all
}

func callCalendar(s string, n int, keep func(results ...any)) {
	day, bad := prop.DayOf(n, n, n)
	keep(day, bad)
	day, bad = prop.DayOf(2024, 2, n)
	keep(day, bad)
	year, month, date, bad := prop.DateOf(n)
	keep(year, month, date, bad)
	year, week, bad := prop.Week(n)
	keep(year, week, bad)
	day, bad = prop.Months(n, n)
	keep(day, bad)
	day, bad = prop.Months(8465, n)
	keep(day, bad)
	text, bad := prop.DateText(n)
	keep(text, bad)
	day, bad = prop.ReadDate(s)
	keep(day, bad)
	from, to, bad := prop.ReadWhen(s, n)
	keep(from, to, bad)
}

// someStrings are strings of all forms, and others.
func someStrings(count int) []string {
	d := dice(9)
	l := []string{"", "\x00", strings.Repeat("[", 3000), strings.Repeat(`"\`, 3000), strings.Repeat("9", 3000), "2024", "2024-02", "a:: 1\n", "this week"}
	for range count {
		l = append(l, d.word(6, "[", "[[", "]]", "]", ", ", `"`, `\`, "1", "2001-01-01", "..", "2024", "-W10", "-", "in ", "3 days", " ago", "next ", "monday", "year", "a", "::", " ", "\n", "\xff"))
	}
	return l
}

// wildValue gives a value with any fields.
func (d *dice) wildValue(deep int) api.Value {
	ints := []int{0, 0, 1, -1, 5, 8465, api.MaxDay, api.MaxDay + 1, math.MaxInt, math.MinInt}
	v := api.Value{Kind: d.next(10) - 1, Int: ints[d.next(len(ints))], To: ints[d.next(len(ints))], Text: d.word(2, "a", " ", "\n", "]]")}
	if deep > 0 {
		for range d.next(3) {
			v.Items = append(v.Items, d.wildValue(deep-1))
		}
	}
	if d.next(2) == 0 {
		return d.value()
	}
	return v
}

// Z1, Z9

func TestCallsReturn(t *testing.T) {
	var d dice
	numbers := []int{math.MinInt, math.MinInt + 1, math.MinInt32, -api.MaxDay, -1, 0, 1, 3, 7, 12, 8465, api.MaxDay, api.MaxDay + 1, math.MaxInt32, math.MaxInt - 1, math.MaxInt}
	for _, s := range someStrings(400) {
		for _, n := range numbers {
			callAll(s, n, d.wildValue(3), d.wildValue(3), d.wildValue(3))
		}
	}
}

// Lists within lists, deeper than calls could go if each had a frame.
func TestDeepValues(t *testing.T) {
	defer debug.SetMaxStack(debug.SetMaxStack(1 << 24))
	nested := func(inner api.Value) api.Value {
		for range 400000 {
			inner = list(inner)
		}
		return inner
	}
	a, b := nested(num(1)), nested(num(2))
	if got := prop.Compare(a, b); got != -1 {
		t.Error(got)
	}
	if got := prop.Compare(b, b); got != 0 {
		t.Error(got)
	}
	if !prop.In(a, a, b) || prop.In(b, a, a) {
		t.Error("In")
	}
	got, ok := prop.Get([]api.Prop{pr("a", a)}, "a")
	if !ok || prop.Compare(got, a) != 0 {
		t.Error(ok)
	}
	if got := prop.CheckValue(a); got != api.ErrKind {
		t.Error(got)
	}
	if _, bad := prop.Text(a); bad != api.ErrKind {
		t.Error(bad)
	}
}

// Z6

// A program that goes back and forth in such strings and lists does not end before the test's time is over.
func TestLongArguments(t *testing.T) {
	for _, bit := range []string{"1", "-", `"`, `\`, `"\"`, "[", "[[", "[[a]], ", "1, ", "2001-01-01", "2001-01-01..", " ", ",", "a,", "a:: 1\n", "\n", "::", "next ", "1 "} {
		s := strings.Repeat(bit, api.MaxBody/len(bit)-3)
		for _, s := range []string{s, "[" + s, `"` + s, "[[" + s, "in " + s, "a:: [" + s} {
			callAll(s, 8465, str(s), link(s), num(1))
		}
	}
	const size = 1 << 20
	values := repeated(num(1), size)
	if got := prop.Compare(list(values...), list(values[1:]...)); got != 1 {
		t.Error(got)
	}
	if got := prop.CheckValue(list(values...)); got != api.ErrLarge {
		t.Error(got)
	}
	if _, bad := prop.Fold(prop.Count, values); bad != api.ErrLarge {
		t.Error(bad)
	}
	if got := prop.CheckProps(make([]api.Prop, size)); got != api.ErrLarge {
		t.Error(got)
	}
	if got := prop.CheckTypes(make([]prop.Type, size)); got != api.ErrLarge {
		t.Error(got)
	}
	if got := prop.CheckTypes([]prop.Type{{Name: "a", Kind: api.String, Choices: make([]string, size)}}); got != api.ErrLarge {
		t.Error(got)
	}
	if _, ok := prop.Get(make([]api.Prop, size), "a"); ok {
		t.Error("Get")
	}
	if got := prop.CheckName(strings.Repeat("a", size)); got != api.ErrName {
		t.Error(got)
	}
}

// Z2

func TestArgumentsStay(t *testing.T) {
	var d dice
	for range 2000 {
		items := numbers(3, 1, 2, 9, 9)
		values := []api.Value{d.value(), list(items[:3]...), d.value(), num(7)}
		l := append(d.list("a", "b", "c"), pr("d", list(items[:3]...)), pr("z", num(1)))
		other := append(d.list("a", "b", "c"), pr("d", list(items[:2]...)), pr("y", num(1)), pr("z", num(1)))
		beforeValues, beforeL, beforeOther := slices.Clone(values), cloned(l), cloned(other)
		for how := prop.Count; how <= prop.Mean; how++ {
			prop.Fold(how, values[:3])
		}
		right := l[:len(l)-1]
		prop.Merge(right[:d.next(len(right)+1)], right, other[:len(other)-2])
		prop.Put(right, "bb", values[1])
		prop.Put(right, "d", values[2])
		prop.Put(right, "d", api.Value{})
		prop.Drop(right, "d")
		prop.PropsText(right)
		if !sameProps(l, beforeL) || !sameProps(other, beforeOther) || !slices.EqualFunc(values, beforeValues, same) || !slices.EqualFunc(items, numbers(3, 1, 2, 9, 9), same) {
			t.Fatal(l, other, values, items)
		}
	}
}

// spoil writes into all memory of a list.
func spoil(l []api.Prop) {
	for i := range l {
		spoilValue(l[i].Value)
		l[i] = pr("spoiled", num(-1))
	}
}

func spoilValue(v api.Value) {
	for i := range v.Items {
		spoilValue(v.Items[i])
		v.Items[i] = str("spoiled")
	}
}

func TestResultsAreNew(t *testing.T) {
	nested := list(num(1), list(num(2), list(num(3))), api.Value{Kind: api.Number, Items: numbers(4)})
	base := []api.Prop{pr("a", nums(1, 2)), pr("b", nums(1)), pr("c", nums(5))}
	a := []api.Prop{pr("a", nums(2, 3)), pr("b", nums(1)), pr("c", num(5))}
	b := []api.Prop{pr("a", nums(2, 4)), pr("b", nums(1, 6)), pr("c", nums(7)), pr("d", nums(8))}
	v := nums(9)
	values := []api.Value{nums(1), nums(2)}
	wild := []api.Prop{pr("n", nested)}
	var results [][]api.Prop
	run := func() {
		merged, _, _ := prop.Merge(base, a, b)
		put, _ := prop.Put(base, "bb", v)
		same, _ := prop.Put(base, "x", api.Value{})
		dropped, _ := prop.Drop(b, "a")
		got, _ := prop.Get(b, "a")
		inner, _ := prop.Get(wild, "n")
		least, _ := prop.Fold(prop.Least, values)
		most, _ := prop.Fold(prop.Most, values)
		read, _ := prop.Read("[1, 2]")
		typed, _ := prop.ReadAs(api.List, "1, 2", 0)
		props, _, _ := prop.ReadProps("a:: [1]\nb:: [1]\n")
		results = [][]api.Prop{merged, put, same, dropped, {pr("got", got), pr("inner", inner), pr("least", least), pr("most", most), pr("read", read), pr("typed", typed)}, props}
	}
	run()
	want := results
	run() // new ones; the first ones are spoiled after a copy of them is made
	wanted := make([][]api.Prop, len(want))
	for i := range want {
		wanted[i] = deepCopy(want[i])
		spoil(want[i])
	}
	for i := range results {
		if !sameProps(results[i], wanted[i]) {
			t.Errorf("%d: %v, want %v", i, results[i], wanted[i])
		}
	}
	run()
	for i := range results {
		if !sameProps(results[i], wanted[i]) {
			t.Errorf("%d, from spoiled arguments: %v, want %v", i, results[i], wanted[i])
		}
	}
}

func deepCopy(l []api.Prop) []api.Prop {
	var copied []api.Prop
	for _, p := range l {
		copied = append(copied, pr(p.Name, deepValue(p.Value)))
	}
	return copied
}

func deepValue(v api.Value) api.Value {
	v.Items = slices.Clone(v.Items)
	for i := range v.Items {
		v.Items[i] = deepValue(v.Items[i])
	}
	return v
}

// One argument for several, or one list of Items in several values: the results share nothing all the same.
func TestListsOfAResultShareNothing(t *testing.T) {
	items := list(num(1), num(2))
	l := []api.Prop{pr("a", items), pr("b", items)}
	for name, result := range map[string]func() []api.Prop{
		"Put":   func() []api.Prop { got, _ := prop.Put(l, "c", items); return got },
		"Drop":  func() []api.Prop { got, _ := prop.Drop(append(l, pr("c", num(1))), "c"); return got },
		"Merge": func() []api.Prop { got, _, _ := prop.Merge(nil, l, l); return got },
		"Get": func() []api.Prop {
			got, _ := prop.Get([]api.Prop{pr("a", list(items, items))}, "a")
			return []api.Prop{pr("0", got.Items[0]), pr("1", got.Items[1])}
		},
	} {
		got := result()
		got[0].Value.Items[0] = str("spoiled")
		for i := 1; i < len(got); i++ {
			if !same(got[i].Value, nums(1, 2)) {
				t.Error(name, got)
			}
		}
		if !same(items, nums(1, 2)) {
			t.Fatal(name, items)
		}
	}
}

// Z3

func TestErrorsHaveZeroValues(t *testing.T) {
	check := func(name string, bad api.Errno, results ...any) {
		if bad == api.OK {
			return
		}
		for _, result := range results {
			if r := reflect.ValueOf(result); !r.IsZero() && !(r.Kind() == reflect.Slice && r.Len() == 0) {
				t.Errorf("%s: %v beside %d", name, result, bad)
			}
		}
	}
	value := func(name string, v api.Value, bad api.Errno) { check(name, bad, v) }
	props := func(name string, l []api.Prop, bad api.Errno) { check(name, bad, l) }
	day := func(name string, n int, bad api.Errno) { check(name, bad, n) }
	var d dice
	for i, s := range someStrings(3000) {
		n := []int{-1, 0, 8465, api.MaxDay, api.MaxDay + 1, math.MinInt, math.MaxInt}[i%7]
		a, b, c := d.wildValue(1), d.wildValue(1), d.wildValue(1)
		l := []api.Prop{pr("a", a), pr("b", b)}
		text, bad := prop.Text(a)
		check("Text", bad, text)
		v, bad := prop.Read(s)
		value("Read", v, bad)
		for kind := range api.List + 2 {
			v, bad = prop.ReadAs(kind, s, n)
			value("ReadAs", v, bad)
		}
		from, to, bad := prop.ReadWhen(s, n)
		check("ReadWhen", bad, from, to)
		at, bad := prop.Months(n, d.next(2000)-1000)
		day("Months", at, bad)
		at, bad = prop.DayOf(1999+d.next(300), d.next(14), d.next(33))
		day("DayOf", at, bad)
		at, bad = prop.ReadDate(s)
		day("ReadDate", at, bad)
		put, bad := prop.Put(l, "a", c)
		props("Put", put, bad)
		dropped, bad := prop.Drop(l, "c")
		props("Drop", dropped, bad)
		text, bad = prop.PropsText(l)
		check("PropsText", bad, text)
		read, line, bad := prop.ReadProps(s)
		check("ReadProps", bad, read)
		if (line > 0) != (bad == api.ErrSyntax) {
			t.Errorf("ReadProps(%q): line %d beside %d", s, line, bad)
		}
		faults, bad := prop.Faults([]prop.Type{{Name: "a", Kind: d.next(9)}}, l)
		check("Faults", bad, faults)
		v, bad = prop.Fold(d.next(8), []api.Value{a, b, c})
		value("Fold", v, bad)
		merged, names, bad := prop.Merge(l[:1], l[1:], nil)
		check("Merge", bad, merged, names)
		if v, ok := prop.Get(l, s); !ok && !isZero(v) {
			t.Errorf("Get: %v", v)
		}
	}
}

// Z5

func TestEmptyAndNilAreTheSame(t *testing.T) {
	for _, items := range [][]api.Value{nil, {}} {
		v := api.Value{Kind: api.List, Items: items}
		if got, bad := prop.Text(v); got != "[]" || bad != api.OK {
			t.Error(got, bad)
		}
		if prop.Compare(v, list()) != 0 || prop.Compare(api.Value{Kind: api.Number, Items: items}, num(0)) != 0 {
			t.Error("Compare")
		}
		for kind := api.None; kind <= api.String; kind++ {
			if got := prop.CheckValue(api.Value{Kind: kind, Items: items}); got != api.OK {
				t.Error(kind, got)
			}
		}
		if got, names, bad := prop.Merge([]api.Prop{pr("a", list())}, []api.Prop{pr("a", v)}, []api.Prop{}); len(got) != 0 || len(names) != 0 || bad != api.OK {
			t.Error(got, names, bad)
		}
	}
	for _, l := range [][]api.Prop{nil, {}} {
		if got, bad := prop.PropsText(l); got != "" || bad != api.OK {
			t.Error(got, bad)
		}
		if got, bad := prop.Put(l, "a", api.Value{Items: []api.Value{}}); len(got) != 0 || bad != api.OK {
			t.Error(got, bad)
		}
	}
	for _, choices := range [][]string{nil, {}} {
		types := []prop.Type{{Name: "a", Kind: api.Number, Choices: choices}, {Name: "b", Kind: api.String, Choices: choices}}
		if got, bad := prop.Faults(types, []api.Prop{pr("a", num(1)), pr("b", str("x"))}); len(got) != 0 || bad != api.OK {
			t.Error(got, bad)
		}
	}
}

// Z7, and Z2: a call depends on its arguments alone

func TestSameArgumentsGiveSameResults(t *testing.T) {
	strs := someStrings(300)
	run := func() [][]any {
		var d dice
		results := make([][]any, len(strs))
		for i, s := range strs {
			results[i] = callAll(s, i%9, d.value(), d.value(), d.wildValue(2))
		}
		return results
	}
	want := run()
	got := make([][][]any, 4)
	var group sync.WaitGroup
	for i := range got {
		group.Go(func() { got[i] = run() })
	}
	group.Wait()
	for i := range got {
		if !reflect.DeepEqual(got[i], want) {
			t.Error("results differ")
		}
	}
}

// Z8

func TestUnusedFieldsAreZero(t *testing.T) {
	for _, s := range someStrings(20000) {
		v, _ := prop.Read(s)
		if bad := prop.CheckValue(v); bad != api.OK {
			t.Fatalf("Read(%q) = %v: %d", s, v, bad)
		}
		for kind := range api.List + 1 {
			v, bad := prop.ReadAs(kind, s, 8465)
			if bad == api.OK && v.Kind != kind || prop.CheckValue(v) != api.OK {
				t.Fatalf("ReadAs(%d, %q) = %v", kind, s, v)
			}
		}
	}
}
