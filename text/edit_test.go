package text_test

import (
	"math"
	"slices"
	"strings"
	"testing"

	"florilegium/api"
	"florilegium/text"
)

// P1.7

// editCases have an edit of a string, its error, what it makes, and its inverse.
func editCases() []editCase {
	full := strings.Repeat("x", api.MaxString)
	return []editCase{
		{"", text.Edit{}, api.OK, "", text.Edit{}},
		{"", text.Edit{With: "ab"}, api.OK, "ab", text.Edit{To: 2}},
		{"abc", text.Edit{From: 1, To: 2, With: "xyz"}, api.OK, "axyzc", text.Edit{From: 1, To: 4, With: "b"}},
		{"abc", text.Edit{From: 0, To: 3}, api.OK, "", text.Edit{With: "abc"}},
		{"abc", text.Edit{From: 3, To: 3, With: "d"}, api.OK, "abcd", text.Edit{From: 3, To: 4}},
		{"abc", text.Edit{From: 3, To: 4}, api.ErrRange, "", text.Edit{}},
		{"abc", text.Edit{From: 4, To: 4}, api.ErrRange, "", text.Edit{}},
		{"abc", text.Edit{From: 2, To: 1}, api.ErrRange, "", text.Edit{}},
		{"abc", text.Edit{From: -1, To: 1}, api.ErrRange, "", text.Edit{}},
		{"abc", text.Edit{From: -2, To: -1}, api.ErrRange, "", text.Edit{}},
		{"abc", text.Edit{From: math.MinInt, To: math.MaxInt}, api.ErrRange, "", text.Edit{}},
		{"abc", text.Edit{From: 4, To: 4, With: "\n"}, api.ErrRange, "", text.Edit{}},
		{"abc", text.Edit{With: "a\x00"}, api.ErrByte, "", text.Edit{}},
		{"abc", text.Edit{With: "\x1f"}, api.ErrByte, "", text.Edit{}},
		{"abc", text.Edit{With: "\x7f"}, api.ErrByte, "", text.Edit{}},
		{"abc", text.Edit{With: " \x80\xff~"}, api.OK, " \x80\xff~abc", text.Edit{To: 4}},
		{"a\nb", text.Edit{From: 0, To: 1}, api.OK, "\nb", text.Edit{With: "a"}},
		{full, text.Edit{}, api.OK, full, text.Edit{}},
		{full, text.Edit{With: "x"}, api.ErrLarge, "", text.Edit{}},
		{full, text.Edit{With: "\n"}, api.ErrByte, "", text.Edit{}},
		{full, text.Edit{From: 5, To: 6, With: "y"}, api.OK, full[:5] + "y" + full[6:], text.Edit{From: 5, To: 6, With: "x"}},
		{full, text.Edit{From: 5, To: 6, With: "yy"}, api.ErrLarge, "", text.Edit{}},
		{full + "x", text.Edit{}, api.ErrLarge, "", text.Edit{}},
		{full + "x", text.Edit{From: 0, To: 1}, api.OK, full, text.Edit{With: "x"}},
		{"", text.Edit{With: full}, api.OK, full, text.Edit{To: api.MaxString}},
		{"", text.Edit{With: full + "x"}, api.ErrLarge, "", text.Edit{}},
	}
}

type editCase struct {
	s       string
	e       text.Edit
	bad     api.Errno
	want    string
	inverse text.Edit
}

func TestCheckEdit(t *testing.T) {
	for _, c := range editCases() {
		if bad := text.CheckEdit(c.s, c.e); bad != c.bad {
			t.Errorf("CheckEdit(%.20q, %.60v) = %d, want %d", c.s, c.e, bad, c.bad)
		}
	}
}

func TestApply(t *testing.T) {
	for _, c := range editCases() {
		if got, bad := text.Apply(c.s, c.e); got != c.want || bad != c.bad {
			t.Errorf("Apply(%.20q, %v) = %.20q, %d, want %.20q, %d", c.s, c.e, got, bad, c.want, c.bad)
		}
	}
}

func TestInverse(t *testing.T) {
	for _, c := range editCases() {
		inverse, bad := text.Inverse(c.s, c.e)
		if inverse != c.inverse || bad != c.bad {
			t.Errorf("Inverse(%.20q, %v) = %v, %d, want %v, %d", c.s, c.e, inverse, bad, c.inverse, c.bad)
		}
	}
}

// P1.8

func TestShift(t *testing.T) {
	marks := []int{-1, 0, 2, 3, 4, 5, 6, api.MaxString, api.MaxString + 1, math.MinInt, math.MaxInt}
	cases := []struct {
		e     text.Edit
		after bool
		want  []int
	}{
		{text.Edit{From: 3, To: 5, With: "xyz"}, false, []int{-1, 0, 2, 3, 3, 3, 7, 2001, 2001, math.MinInt, math.MaxInt}},
		{text.Edit{From: 3, To: 5, With: "xyz"}, true, []int{-1, 0, 2, 6, 6, 6, 7, 2001, 2001, math.MinInt, math.MaxInt}},
		{text.Edit{From: 3, To: 5}, false, []int{-1, 0, 2, 3, 3, 3, 4, 1998, 2001, math.MinInt, math.MaxInt}},
		{text.Edit{From: 3, To: 5}, true, []int{-1, 0, 2, 3, 3, 3, 4, 1998, 2001, math.MinInt, math.MaxInt}},
		{text.Edit{From: 3, To: 3, With: "xy"}, false, []int{-1, 0, 2, 3, 6, 7, 8, 2002, 2001, math.MinInt, math.MaxInt}},
		{text.Edit{From: 3, To: 3, With: "xy"}, true, []int{-1, 0, 2, 5, 6, 7, 8, 2002, 2001, math.MinInt, math.MaxInt}},
		{text.Edit{From: 0, To: 0, With: "x"}, true, []int{-1, 1, 3, 4, 5, 6, 7, 2001, 2001, math.MinInt, math.MaxInt}},
		{text.Edit{From: 3, To: 3}, true, marks},
		{text.Edit{From: -1, To: 4, With: "x"}, true, marks},
		{text.Edit{From: 4, To: 3, With: "x"}, false, marks},
		{text.Edit{From: math.MinInt, To: math.MaxInt, With: "x"}, false, marks},
		{text.Edit{From: math.MaxInt, To: math.MinInt, With: "x"}, false, marks},
		{text.Edit{From: math.MaxInt, To: math.MaxInt, With: "x"}, true, marks},
		{text.Edit{From: 4, To: math.MaxInt, With: "x"}, false, []int{-1, 0, 2, 3, 4, 4, 4, 4, 2001, math.MinInt, math.MaxInt}},
		{text.Edit{From: 4, To: math.MaxInt, With: "x"}, true, []int{-1, 0, 2, 3, 5, 5, 5, 5, 2001, math.MinInt, math.MaxInt}},
		{text.Edit{From: 6, To: 6, With: "\n"}, false, []int{-1, 0, 2, 3, 4, 5, 6, 2001, 2001, math.MinInt, math.MaxInt}},
	}
	for _, c := range cases {
		if got := text.Shift(marks, c.e, c.after); !slices.Equal(got, c.want) {
			t.Errorf("Shift(.., %v, %v) = %d, want %d", c.e, c.after, got, c.want)
		}
	}
	if got := text.Shift(nil, text.Edit{}, false); len(got) != 0 {
		t.Error(got)
	}
}

func TestShiftOfManyMarks(t *testing.T) {
	marks := make([]int, text.MaxMarks+1)
	got := text.Shift(marks, text.Edit{With: "ab"}, true)
	if len(got) != len(marks) || slices.Min(got) != 2 || slices.Max(got) != 2 {
		t.Error(len(got))
	}
}

func TestCompose(t *testing.T) {
	full := strings.Repeat("x", api.MaxString)
	cases := []struct {
		s    string
		l    []text.Edit
		want text.Edit
		bad  api.Errno
	}{
		{"abc", nil, text.Edit{From: 3, To: 3}, api.OK},
		{"abc", []text.Edit{{From: 1, To: 2, With: "b"}}, text.Edit{From: 3, To: 3}, api.OK},
		{"abc", []text.Edit{{From: 0, To: 1, With: "x"}, {From: 1, To: 2, With: "yy"}}, text.Edit{From: 0, To: 2, With: "xyy"}, api.OK},
		{"abc", []text.Edit{{From: 3, To: 3, With: "de"}, {From: 4, To: 5}}, text.Edit{From: 3, To: 3, With: "d"}, api.OK},
		{"", []text.Edit{{With: "a"}, {From: 1, To: 1, With: "b"}, {From: 2, To: 2, With: "c"}}, text.Edit{With: "abc"}, api.OK},
		{"abc", []text.Edit{{From: 0, To: 3}, {From: 1, To: 1}}, text.Edit{}, api.ErrRange},
		{"abc", []text.Edit{{From: 4, To: 4}, {With: "\n"}}, text.Edit{}, api.ErrRange},
		{"abc", []text.Edit{{With: "\n"}, {From: 9, To: 9}}, text.Edit{}, api.ErrByte},
		{full, []text.Edit{{From: 0, To: 1}, {With: "y"}}, text.Edit{From: 0, To: 1, With: "y"}, api.OK},
		{full, []text.Edit{{With: "y"}, {From: 0, To: 1}}, text.Edit{}, api.ErrLarge},
		{"abc", make([]text.Edit, text.MaxEdits), text.Edit{From: 3, To: 3}, api.OK},
		{"abc", make([]text.Edit, text.MaxEdits+1), text.Edit{}, api.ErrLarge},
		{"abc", slices.Repeat([]text.Edit{{From: -1}}, text.MaxEdits+1), text.Edit{}, api.ErrLarge},
		{"abc", slices.Repeat([]text.Edit{{From: -1}}, text.MaxEdits), text.Edit{}, api.ErrRange},
		{full + "x", nil, text.Edit{From: api.MaxString + 1, To: api.MaxString + 1}, api.OK},
		{full + "\n", []text.Edit{{From: 0, To: 2}}, text.Edit{From: api.MaxString - 2, To: api.MaxString}, api.OK},
	}
	for _, c := range cases {
		if got, bad := text.Compose(c.s, c.l); got != c.want || bad != c.bad {
			t.Errorf("Compose(%.20q, %.99v) = %v, %d, want %v, %d", c.s, c.l, got, bad, c.want, c.bad)
		}
	}
}

func TestDiff(t *testing.T) {
	cases := []struct {
		a, b string
		want text.Edit
	}{
		{"", "", text.Edit{}},
		{"", "ab", text.Edit{With: "ab"}},
		{"ab", "", text.Edit{To: 2}},
		{"ab", "ab", text.Edit{From: 2, To: 2}},
		{"abc", "axc", text.Edit{From: 1, To: 2, With: "x"}},
		{"aaa", "aa", text.Edit{From: 2, To: 3}},
		{"aa", "aaa", text.Edit{From: 2, To: 2, With: "a"}},
		{"aba", "ababa", text.Edit{From: 3, To: 3, With: "ba"}},
		{"xaba", "xa", text.Edit{From: 2, To: 4}},
		{"abcb", "ab", text.Edit{From: 2, To: 4}},
		{"abcabc", "abcxabc", text.Edit{From: 3, To: 3, With: "x"}},
		{"abc", "xyz", text.Edit{To: 3, With: "xyz"}},
		{"é", "è", text.Edit{From: 1, To: 2, With: "\xa8"}},
		{"a\n\x00", "a\x00", text.Edit{From: 1, To: 2}},
	}
	for _, c := range cases {
		if got := text.Diff(c.a, c.b); got != c.want {
			t.Errorf("Diff(%q, %q) = %v, want %v", c.a, c.b, got, c.want)
		}
	}
}
