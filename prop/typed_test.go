package prop_test

import (
	"math"
	"strings"
	"testing"

	"florilegium/api"
	"florilegium/prop"
)

// P2.3

func TestReadAs(t *testing.T) {
	for _, c := range []struct {
		kind int
		s    string
		want api.Value
	}{
		{api.None, "", api.Value{}}, {api.None, "  ", api.Value{}}, {api.Flag, "yes", flag(1)}, {api.Flag, "True", flag(1)}, {api.Flag, " ON ", flag(1)},
		{api.Flag, "no", flag(0)}, {api.Flag, "FALSE", flag(0)}, {api.Flag, "oFf", flag(0)}, {api.Number, "0", num(0)}, {api.Number, " -7 ", num(-7)},
		{api.Number, "1000000000", num(api.MaxNumber)}, {api.Number, "-1000000000", num(-api.MaxNumber)}, {api.String, "", str("")}, {api.String, "   ", str("")},
		{api.String, " a  b ", str("a  b")}, {api.String, `"a"`, str(`"a"`)}, {api.String, "[[a]], b", str("[[a]], b")}, {api.Link, " Big Cats ", link("Big Cats")},
		{api.Link, "a, b", link("a, b")}, {api.Date, "next friday", day(8467)}, {api.Date, "2024-03-06", day(8465)}, {api.Date, " ToDay ", day(8465)},
		{api.Date, "2024-03-06..2024-03-06", day(8465)}, {api.Date, "this day", day(8465)}, {api.Date, "in 1 month", day(8496)}, {api.Span, "this week", span(8463, 8469)},
		{api.Span, "today", span(8465, 8465)}, {api.Span, "2024-W10", span(8463, 8469)}, {api.Span, "2024-03-06..2024-03-07", span(8465, 8466)}, {api.List, "", list()},
		{api.List, "  ", list()}, {api.List, "a", list(str("a"))}, {api.List, " a, b c ,d,a ", list(str("a"), str("b c"), str("d"), str("a"))},
		{api.List, `1, "x"`, list(str("1"), str(`"x"`))}, {api.List, strings.Repeat("a,", 19) + "a", list(repeated(str("a"), 20)...)},
	} {
		if got, bad := prop.ReadAs(c.kind, c.s, 8465); !same(got, c.want) || bad != api.OK {
			t.Errorf("ReadAs(%d, %q) = %v, %d, want %v", c.kind, c.s, got, bad, c.want)
		}
	}
}

func repeated(v api.Value, count int) []api.Value {
	var l []api.Value
	for range count {
		l = append(l, v)
	}
	return l
}

func TestReadAsOfWrongStrings(t *testing.T) {
	long := strings.Repeat("a", api.MaxString+1)
	for _, c := range []struct {
		kind int
		s    string
		want api.Errno
	}{
		{api.None, "-", api.ErrSyntax}, {api.None, "x", api.ErrSyntax}, {api.None, "\t", api.ErrSyntax}, {api.Flag, "", api.ErrSyntax}, {api.Flag, "y", api.ErrSyntax},
		{api.Flag, "1", api.ErrSyntax}, {api.Flag, "yes no", api.ErrSyntax}, {api.Flag, "ye\u017f", api.ErrSyntax}, {api.Flag, "fal\u017fe", api.ErrSyntax}, {api.Flag, "\tyes", api.ErrSyntax},
		{api.Number, "", api.ErrSyntax}, {api.Number, "-", api.ErrSyntax}, {api.Number, "-0", api.ErrSyntax}, {api.Number, "+1", api.ErrSyntax}, {api.Number, "01", api.ErrSyntax},
		{api.Number, "- 1", api.ErrSyntax}, {api.Number, "1 000", api.ErrSyntax}, {api.Number, "12345678901", api.ErrSyntax}, {api.Number, "-00000000001", api.ErrSyntax},
		{api.Number, "1000000001", api.ErrRange}, {api.Number, "9999999999", api.ErrRange}, {api.Number, "-9999999999", api.ErrRange}, {api.String, "a\nb", api.ErrByte},
		{api.String, "\t", api.ErrByte}, {api.String, long, api.ErrLarge}, {api.Link, "", api.ErrForm}, {api.Link, "  ", api.ErrForm}, {api.Link, "[[a]]", api.ErrForm},
		{api.Link, "a|b", api.ErrForm}, {api.Link, "a\x7f", api.ErrByte}, {api.Link, long[:101], api.ErrLarge}, {api.Date, "", api.ErrSyntax}, {api.Date, "this week", api.ErrSyntax},
		{api.Date, "2024", api.ErrSyntax}, {api.Date, "2024-03-06..2024-03-07", api.ErrSyntax}, {api.Date, "2024-02-30", api.ErrRange}, {api.Date, "24 years ago", api.ErrRange},
		{api.Date, "2024-03-07..2024-03-06", api.ErrOrder}, {api.Date, "2024-13", api.ErrRange}, {api.Span, "", api.ErrSyntax}, {api.Span, "soon", api.ErrSyntax},
		{api.Span, "2024-03-07..2024-03-06", api.ErrOrder}, {api.Span, "2000", api.ErrRange}, {api.Span, "2024-03-06, 2024-03-07", api.ErrSyntax}, {api.List, ",", api.ErrSyntax},
		{api.List, "a,", api.ErrSyntax}, {api.List, ",a", api.ErrSyntax}, {api.List, "a, ,b", api.ErrSyntax}, {api.List, "a,,b", api.ErrSyntax}, {api.List, "a,b\n", api.ErrByte},
		{api.List, "a,\n,", api.ErrSyntax}, {api.List, "a," + long, api.ErrLarge}, {api.List, strings.Repeat("a,", 20) + "a", api.ErrLarge},
		{api.List, strings.Repeat("a,", 21), api.ErrSyntax}, {api.List, strings.Repeat("\n,", 20) + "a", api.ErrLarge},
		{-1, "", api.ErrKind}, {8, "", api.ErrKind}, {math.MaxInt, "", api.ErrKind},
	} {
		if got, bad := prop.ReadAs(c.kind, c.s, 8465); !isZero(got) || bad != c.want {
			t.Errorf("ReadAs(%d, %.40q) = %v, %d, want %d", c.kind, c.s, got, bad, c.want)
		}
	}
}

func TestReadAsInOrder(t *testing.T) {
	full := strings.Repeat("a", api.MaxBody)
	for kind := range api.List + 1 {
		for _, today := range []int{math.MinInt, -1, api.MaxDay + 1, math.MaxInt} {
			for _, s := range []string{"", "\n", "today", full} {
				if got, bad := prop.ReadAs(kind, s, today); !isZero(got) || bad != api.ErrRange {
					t.Error(kind, today, got, bad)
				}
			}
			if got, bad := prop.ReadAs(kind, full+"a", today); !isZero(got) || bad != api.ErrLarge {
				t.Error(kind, today, got, bad)
			}
		}
		if _, bad := prop.ReadAs(kind, full+" ", 0); bad != api.ErrLarge {
			t.Error(kind, bad)
		}
		want := api.ErrSyntax
		if kind == api.String || kind == api.Link || kind == api.List {
			want = api.ErrLarge
		}
		if _, bad := prop.ReadAs(kind, full, 0); bad != want {
			t.Error(kind, bad)
		}
	}
	if _, bad := prop.ReadAs(8, full+"a", -1); bad != api.ErrKind {
		t.Error(bad)
	}
}
