package text_test

import (
	"math"
	"reflect"
	"slices"
	"strings"
	"sync"
	"testing"

	"florilegium/api"
	"florilegium/text"
)

// The tests of this file hold the package against the general rules, Z1 to Z10.
// (Z11 and Z12 are about orders and quotients: this package has none.)

// callAll calls every function with a string and a number, and gives all results.
func callAll(s string, n int) []any {
	var all []any
	keep := func(results ...any) { all = append(all, results...) }
	e := text.Edit{From: n, To: n, With: s}
	keep(text.Check(s), text.Spans(s), text.PlainOf(s), text.Links(s), text.Refs(s), text.Tags(s))
	keep(text.Escaped(s), text.Unmarked(s), text.Parts(s), text.Diff(s, "a"+s), text.Excerpt(s, n))
	source, bad := text.Source(s, n)
	keep(source, bad)
	link, bad := text.LinkText(s, s)
	keep(link, bad)
	changed, bad := text.Retarget(s, n, s)
	keep(changed, bad)
	renumbered, bad := text.Renumber(s, []int{n, 7}, []int{7, n})
	keep(renumbered, bad, text.CheckEdit(s, e))
	applied, bad := text.Apply(s, e)
	keep(applied, bad)
	inverse, bad := text.Inverse(s, e)
	keep(inverse, bad, text.Shift([]int{n, 0, 5}, e, true), text.Shift([]int{n, 0, 5}, e, false))
	composed, bad := text.Compose(s, []text.Edit{e, {}})
	keep(composed, bad)
	return all
}

// Z1, Z9

func TestCallsReturn(t *testing.T) {
	numbers := []int{math.MinInt, math.MinInt + 1, -1, 0, 1, 3, api.MaxString, api.MaxId, math.MaxInt32, math.MaxInt - 1, math.MaxInt}
	strs := append(generated(300), "", "\x00", strings.Repeat("a", api.MaxString), strings.Repeat("[[a]]", 1000))
	for _, s := range strs {
		for _, n := range numbers {
			callAll(s, n)
		}
	}
}

func TestGreatNumbersAreRefused(t *testing.T) {
	for _, n := range []int{math.MaxInt, math.MinInt} {
		e := text.Edit{From: n, To: n}
		if got := text.CheckEdit("abc", e); got != api.ErrRange {
			t.Error(n, got)
		}
		if got := text.CheckEdit("abc", text.Edit{To: n}); got != api.ErrRange {
			t.Error(n, got)
		}
		if _, bad := text.Source("abc", n); bad != api.ErrRange {
			t.Error(n, bad)
		}
		if _, bad := text.Retarget("[[a]]", n, "b"); bad != api.ErrNone {
			t.Error(n, bad)
		}
		if _, bad := text.Renumber("((1))", []int{1}, []int{n}); bad != api.ErrRange {
			t.Error(n, bad)
		}
		if s, bad := text.Renumber("((1))", []int{n}, []int{2}); bad != api.OK || s != "((1))" {
			t.Error(n, s, bad)
		}
	}
	if got := text.Excerpt("a b", math.MaxInt); got != "a b" {
		t.Errorf("%q", got)
	}
}

// Z6

// A program that goes back and forth in such strings does not end before the test's time is over.
func TestLongStrings(t *testing.T) {
	const size = 1 << 19
	for _, bit := range []string{"a", " ", "[", "[[", "[[a|", "[[a|b]", "[[a]]", "(", "((1", "((1))", "#", "#a", "#a/ ", "*", "**", "`", "`a", "\\", "\\`", "`[[a|"} {
		s := strings.Repeat(bit, size/len(bit))
		for _, s := range []string{s, "`" + s, "[[a|" + s, "#" + s} {
			if got := len(text.Parts(s)); got == 0 {
				t.Error(bit, got)
			}
			if got := text.PlainOf(text.Escaped(s)); got != s {
				t.Error(bit)
			}
			if at, bad := text.Source(s, len(text.PlainOf(s))); at != len(s) || bad != api.OK {
				t.Error(bit, at, bad)
			}
		}
	}
}

func TestLongLists(t *testing.T) {
	const size = 1 << 20
	from, to := make([]int, size), make([]int, size)
	for i := range from {
		from[i], to[i] = size-i, i%api.MaxId+1
	}
	s := strings.Repeat("((9))", 300)
	if got, bad := text.Renumber(s, from, to); bad != api.ErrLarge || got != "" {
		t.Errorf("%.20q %d", got, bad)
	}
	if got := text.Shift(from, text.Edit{}, false); !slices.Equal(got, from) {
		t.Error(len(got))
	}
}

// Z2

func TestArgumentsStay(t *testing.T) {
	from, to := []int{1, 2, 3, 4}, []int{5, 6, 0, 0}
	if s, bad := text.Renumber("((1))((3))", from[:2], to[:2]); bad != api.OK || s != "((5))((3))" {
		t.Error(s, bad)
	}
	marks := []int{3, 4, 5}
	shifted := text.Shift(marks[:2], text.Edit{With: "ab"}, true)
	if !slices.Equal(shifted, []int{5, 6}) {
		t.Error(shifted)
	}
	edits := []text.Edit{{With: "a"}, {From: 1, To: 1, With: "b"}, {From: -1}}
	if e, bad := text.Compose("", edits[:2]); bad != api.OK || e != (text.Edit{With: "ab"}) {
		t.Error(e, bad)
	}
	if !slices.Equal(from, []int{1, 2, 3, 4}) || !slices.Equal(to, []int{5, 6, 0, 0}) || !slices.Equal(marks, []int{3, 4, 5}) {
		t.Error(from, to, marks)
	}
	if !slices.Equal(edits, []text.Edit{{With: "a"}, {From: 1, To: 1, With: "b"}, {From: -1}}) {
		t.Error(edits)
	}
}

func TestResultsAreNew(t *testing.T) {
	marks := []int{1, 2}
	for _, e := range []text.Edit{{}, {From: 9, To: 9}, {From: -1}, {With: "a"}} {
		shifted := text.Shift(marks, e, false)
		if &shifted[0] == &marks[0] {
			t.Error(e)
		}
	}
	s := "a [[b]] #c ((1)) **d**"
	first := []any{text.Spans(s), text.Links(s), text.Refs(s), text.Tags(s), text.Parts(s)}
	clear(first[0].([]text.Span))
	clear(first[1].([]string))
	clear(first[2].([]int))
	clear(first[3].([]string))
	clear(first[4].([]string))
	if got := row(text.Spans(s)); got != "plain<a >link<b>plain< >tag<c>plain< >ref<1>plain< >!bold<**>!plain<d>!bold<**>" {
		t.Error(got)
	}
	if len(text.Parts(s)) != 7 || text.Links(s)[0] != "b" || text.Refs(s)[0] != 1 || text.Tags(s)[0] != "c" {
		t.Error(text.Parts(s))
	}
}

// Z3

func TestErrorsHaveZeroValues(t *testing.T) {
	full := strings.Repeat("x", api.MaxString)
	check := func(name string, result any, bad, want api.Errno) {
		if bad != want || !reflect.ValueOf(result).IsZero() {
			t.Errorf("%s: %.40v, %d, want %d", name, result, bad, want)
		}
	}
	at, bad := text.Source("**ab**", 3)
	check("Source", at, bad, api.ErrRange)
	s, bad := text.LinkText("a|", "b")
	check("LinkText name", s, bad, api.ErrName)
	s, bad = text.LinkText("a", "b]")
	check("LinkText form", s, bad, api.ErrForm)
	s, bad = text.Retarget("[[a]]", 1, "b")
	check("Retarget none", s, bad, api.ErrNone)
	s, bad = text.Retarget("[[a]]", 0, "b|c")
	check("Retarget name", s, bad, api.ErrName)
	s, bad = text.Retarget("[[a]]"+full, 0, "b")
	check("Retarget large", s, bad, api.ErrLarge)
	s, bad = text.Renumber("((1))", []int{1}, []int{1, 2})
	check("Renumber form", s, bad, api.ErrForm)
	s, bad = text.Renumber("((1))", []int{1}, []int{-1})
	check("Renumber range", s, bad, api.ErrRange)
	s, bad = text.Renumber("((1))"+full, []int{1}, []int{2})
	check("Renumber large", s, bad, api.ErrLarge)
	for _, c := range editCases() {
		if c.bad == api.OK {
			continue
		}
		s, bad = text.Apply(c.s, c.e)
		check("Apply", s, bad, c.bad)
		e, bad := text.Inverse(c.s, c.e)
		check("Inverse", e, bad, c.bad)
		e, bad = text.Compose(c.s, []text.Edit{c.e})
		check("Compose", e, bad, c.bad)
	}
}

// Z4

func TestFirstErrorIsReturned(t *testing.T) {
	full := strings.Repeat("x", api.MaxString)
	cases := []struct {
		name      string
		got, want api.Errno
	}{
		{"Check", text.Check(full + "\n"), api.ErrLarge},
		{"CheckEdit range", text.CheckEdit(full, text.Edit{From: 1, With: "\n"}), api.ErrRange},
		{"CheckEdit byte", text.CheckEdit(full, text.Edit{With: full + "\n"}), api.ErrByte},
		{"LinkText", second(text.LinkText("]", "]")), api.ErrName},
		{"Retarget none", second(text.Retarget(full+full, 0, "")), api.ErrNone},
		{"Retarget name", second(text.Retarget("[[a]]"+full, 0, "")), api.ErrName},
		{"Renumber form", second(text.Renumber(full+full, nil, []int{0})), api.ErrForm},
		{"Renumber range", second(text.Renumber(full+full, []int{1}, []int{0})), api.ErrRange},
		{"Compose large", second(text.Compose("", slices.Repeat([]text.Edit{{To: 1}}, 101))), api.ErrLarge},
		{"Compose first", second(text.Compose("", []text.Edit{{With: "\n"}, {To: 1}})), api.ErrByte},
	}
	for _, c := range cases {
		if c.got != c.want {
			t.Errorf("%s: %d, want %d", c.name, c.got, c.want)
		}
	}
}

func second[T any](_ T, bad api.Errno) api.Errno {
	return bad
}

// Z5

func TestEmptyAndNilAreTheSame(t *testing.T) {
	for _, from := range [][]int{nil, {}} {
		for _, to := range [][]int{nil, {}} {
			if s, bad := text.Renumber("((1))", from, to); s != "((1))" || bad != api.OK {
				t.Error(s, bad)
			}
		}
		if got := text.Shift(from, text.Edit{With: "a"}, true); len(got) != 0 {
			t.Error(got)
		}
	}
	for _, l := range [][]text.Edit{nil, {}} {
		if e, bad := text.Compose("ab", l); e != (text.Edit{From: 2, To: 2}) || bad != api.OK {
			t.Error(e, bad)
		}
	}
}

// Z7, and Z2: a call depends on its arguments alone

func TestSameArgumentsGiveSameResults(t *testing.T) {
	strs := generated(500)
	run := func() [][]any {
		results := make([][]any, len(strs))
		for i, s := range strs {
			results[i] = callAll(s, i%9)
		}
		return results
	}
	want := run()
	got := make([][][]any, 4)
	var group sync.WaitGroup
	for i := range got {
		group.Go(func() { got[i] = run() })
	}
	group.Wait()
	for i := range got {
		if !reflect.DeepEqual(got[i], want) {
			t.Error("results differ")
		}
	}
}

// Z8

func TestUnnamedFieldsAreZero(t *testing.T) {
	for _, s := range generated(5000) {
		for _, span := range text.Spans(s) {
			if span.Kind != text.Link && span.Show != "" || span.Kind != text.Ref && span.Id != 0 {
				t.Fatalf("%+v", span)
			}
		}
	}
}

// Z10

func TestNumbersInStrings(t *testing.T) {
	if got := text.Refs("((007)) ((+7)) ((-7)) ((7 )) ((0x7)) ((7)) ((0))"); !slices.Equal(got, []int{7}) {
		t.Error(got)
	}
	if s, bad := text.Renumber("((1))((2))((3))", []int{1, 2, 3}, []int{1000000, 10, 100}); s != "((1000000))((10))((100))" || bad != api.OK {
		t.Error(s, bad)
	}
}

func TestLimitsAreInBytes(t *testing.T) {
	title := strings.Repeat("é", api.MaxTitle/2)
	if len(text.Links("[["+title+"]]")) != 1 || len(text.Links("[["+title+"é]]")) != 0 {
		t.Error("links")
	}
	if len(text.Tags("#"+title)) != 1 || len(text.Tags("#"+title+"é")) != 0 {
		t.Error("tags")
	}
	if text.Check(strings.Repeat("é", api.MaxString/2+1)) != api.ErrLarge {
		t.Error("check")
	}
}
