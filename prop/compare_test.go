package prop_test

import (
	"cmp"
	"math"
	"slices"
	"testing"

	"florilegium/api"
	"florilegium/prop"
)

// P2.4

// rising are values of which each one is above the one before.
func rising() []api.Value {
	return []api.Value{
		{}, flag(0), flag(1), num(-api.MaxNumber), num(-1), num(0), num(5), num(api.MaxNumber), str(""), str(" "), str("B"), str("a"), str("a "), str("aa"),
		str("b"), str("é"), str("\xff"), day(0), day(5), day(api.MaxDay), span(0, 0), span(0, 1), span(0, api.MaxDay), span(1, 1), span(1, 2), link("A"),
		link("a"), link("ab"), link("b"), list(), list(flag(0)), nums(0), nums(0, -1), nums(0, 5), nums(0, 5, 5), nums(1), nums(1, 0), list(num(1), str("")),
		list(str("a")), list(str("a"), num(0)), list(link("a")),
	}
}

func TestCompare(t *testing.T) {
	l := rising()
	for i, a := range l {
		for j, b := range l {
			if got := prop.Compare(a, b); got != cmp.Compare(i, j) {
				t.Errorf("Compare(%v, %v) = %d", a, b, got)
			}
		}
	}
}

func TestCompareIsTotal(t *testing.T) {
	var d dice
	var l []api.Value
	for range 300 {
		l = append(l, d.value())
	}
	for _, a := range l {
		for _, b := range l {
			if got := prop.Compare(a, b); got != -prop.Compare(b, a) || (got == 0) != same(a, b) {
				t.Fatalf("Compare(%v, %v) = %d", a, b, got)
			}
		}
	}
	slices.SortFunc(l, prop.Compare)
	for i, a := range l {
		for _, b := range l[i:] {
			if prop.Compare(a, b) > 0 {
				t.Fatalf("Compare(%v, %v)", a, b)
			}
		}
	}
}

func TestCompareOfWrongValues(t *testing.T) {
	mess := func(v api.Value) api.Value { // other fields, where the kind does not use them
		switch v.Kind {
		case api.String, api.Link, api.List:
			v.Int = math.MaxInt
		}
		if v.Kind != api.Span {
			v.To = math.MinInt
		}
		if v.Kind != api.String && v.Kind != api.Link {
			v.Text = "zz\n"
		}
		if v.Kind != api.List {
			v.Items = numbers(9)
		}
		return v
	}
	for _, a := range rising() {
		for _, b := range rising() {
			if got, want := prop.Compare(mess(a), b), prop.Compare(a, b); got != want {
				t.Errorf("Compare(%v, %v) = %d, want %d", mess(a), b, got, want)
			}
		}
	}
	for _, c := range []struct {
		a, b api.Value
		want int
	}{
		{flag(7), flag(3), 1}, {num(math.MinInt), num(math.MaxInt), -1}, {day(-5), day(-4), -1}, {span(5, 2), span(5, 3), -1}, {span(5, 2), span(5, 2), 0},
		{api.Value{Int: 1}, api.Value{}, 0}, {api.Value{Kind: -1}, api.Value{}, -1}, {api.Value{Kind: 8}, list(), 1},
		{api.Value{Kind: 8, Int: 1, Text: "a"}, api.Value{Kind: 8, Items: numbers(1)}, 0}, {api.Value{Kind: 9}, api.Value{Kind: 8}, 1},
		{str("a\n"), str("a\x00"), 1}, {link(""), link(" "), -1}, {list(list()), list(list(num(1))), -1}, {list(list(num(2)), num(1)), list(list(num(1)), num(2)), 1},
		{list(list(num(1)), num(1)), list(list(num(1)), num(2)), -1}, {list(list(list())), list(list(list())), 0}, {list(list(), num(1)), list(list()), 1},
		{list(list(num(1))), list(list(num(1), num(1)), num(0)), -1}, {list(api.Value{}), list(), 1}, {list(list()), list(num(1)), 1},
	} {
		if got := prop.Compare(c.a, c.b); got != c.want {
			t.Errorf("Compare(%v, %v) = %d, want %d", c.a, c.b, got, c.want)
		}
	}
}

func TestIn(t *testing.T) {
	none := api.Value{}
	for _, c := range []struct {
		v, low, high api.Value
		want         bool
	}{
		{num(3), none, none, true}, {none, none, none, true}, {num(3), num(3), num(3), true}, {num(3), num(4), none, false}, {num(3), none, num(2), false},
		{num(3), num(2), none, true}, {num(3), none, num(4), true}, {num(3), num(4), num(2), false}, {num(3), num(1), num(2), false}, {num(3), str("a"), none, false},
		{num(3), none, str("a"), false}, {num(3), flag(0), none, false}, {num(3), flag(0), str("a"), false}, {num(3), num(1), str("a"), false}, {none, num(1), none, false},
		{none, none, num(1), false}, {str("b"), str("a"), str("c"), true}, {str("B"), str("a"), none, false}, {day(5), day(5), day(6), true}, {day(5), num(5), none, false},
		{span(1, 5), span(1, 4), span(1, 6), true}, {span(1, 5), span(1, 6), none, false}, {link("b"), link("a"), none, true}, {link("b"), str("a"), none, false},
		{nums(1, 2), nums(1), nums(2), true}, {nums(1), nums(1, 0), none, false}, {flag(1), flag(0), flag(0), false},
		{num(math.MinInt), none, num(math.MinInt), true}, {num(3), api.Value{Int: 9}, api.Value{Text: "a"}, true},
	} {
		if got := prop.In(c.v, c.low, c.high); got != c.want {
			t.Errorf("In(%v, %v, %v) = %v", c.v, c.low, c.high, got)
		}
	}
}

func TestMeets(t *testing.T) {
	for _, c := range []struct {
		a, b api.Value
		want bool
	}{
		{day(5), day(5), true}, {day(5), day(6), false}, {span(5, 9), day(5), true}, {span(5, 9), day(9), true}, {span(5, 9), day(7), true}, {span(5, 9), day(4), false},
		{span(5, 9), day(10), false}, {span(5, 9), span(9, 12), true}, {span(5, 9), span(10, 12), false}, {span(5, 9), span(6, 7), true}, {span(5, 9), span(0, 20), true},
		{span(5, 9), num(7), false}, {num(7), num(7), false}, {day(7), flag(1), false}, {day(7), api.Value{}, false}, {api.Value{}, api.Value{}, false},
		{str("a"), str("a"), false}, {list(day(7)), day(7), false}, {list(day(7)), list(day(7)), false}, {api.Value{Kind: 8, Int: 7, To: 7}, day(7), false},
		{span(9, 5), day(7), false}, {span(9, 5), span(0, 20), false}, {span(9, 5), span(9, 5), false}, {span(9, 5), day(9), false},
		{day(-3), span(-5, -1), true}, {day(math.MinInt), day(math.MinInt), true}, {span(math.MinInt, math.MaxInt), day(api.MaxDay + 1), true},
		{api.Value{Kind: api.Date, Int: 7, To: 3}, span(3, 3), false},
	} {
		if got := prop.Meets(c.a, c.b); got != c.want {
			t.Errorf("Meets(%v, %v) = %v", c.a, c.b, got)
		}
		if got := prop.Meets(c.b, c.a); got != c.want {
			t.Errorf("Meets(%v, %v) = %v", c.b, c.a, got)
		}
	}
}
