package prop_test

import (
	"slices"
	"strings"
	"testing"

	"florilegium/api"
	"florilegium/prop"
)

// P2.12

// mergeOne merges lists that have one name at most.
func mergeOne(t *testing.T, base, a, b api.Value) (api.Value, bool) {
	t.Helper()
	listOf := func(v api.Value) []api.Prop {
		if v.Kind == api.None {
			return nil
		}
		return []api.Prop{pr("p", v)}
	}
	l, names, bad := prop.Merge(listOf(base), listOf(a), listOf(b))
	if bad != api.OK || len(l) > 1 || len(names) > 1 || len(names) == 1 && names[0] != "p" {
		t.Fatal(base, a, b, l, names, bad)
	}
	v, ok := prop.Get(l, "p")
	if ok != (len(l) == 1) || ok && v.Kind == api.None {
		t.Fatal(l)
	}
	return v, len(names) == 0
}

func TestMergeOfOneName(t *testing.T) {
	none := api.Value{}
	ten := nums(0, 1, 2, 3, 4, 5, 6, 7, 8, 9)
	for _, c := range []struct {
		base, a, b, want api.Value
		agreed           bool
	}{
		{none, none, none, none, true}, {num(1), num(1), num(2), num(2), true}, {num(1), num(2), num(1), num(2), true}, {num(1), num(2), num(2), num(2), true},
		{num(1), num(1), none, none, true}, {num(1), none, num(1), none, true}, {num(1), none, none, none, true}, {none, num(1), none, num(1), true}, {none, none, num(1), num(1), true},
		{none, num(1), num(1), num(1), true}, {none, num(1), num(2), num(1), false}, {num(1), num(2), num(3), num(2), false}, {num(1), none, num(3), num(3), false},
		{num(1), num(2), none, num(2), false}, {num(1), str("1"), flag(1), str("1"), false}, {num(1), nums(1), nums(2), nums(1), false}, {nums(1), num(1), nums(2), num(1), false},
		{nums(1), nums(2), num(1), nums(2), false}, {nums(1), none, num(1), num(1), false}, {none, nums(1), num(1), nums(1), false}, {none, num(1), nums(1), num(1), false},
		{nums(1, 2, 3), nums(1, 3, 8), nums(2, 3, 9, 8), nums(3, 8, 9), true}, {none, nums(1, 2), nums(3, 1), nums(1, 2, 3), true}, {none, nums(1), list(), nums(1), true},
		{list(), nums(1), none, nums(1), true}, {list(), none, nums(1), nums(1), true}, {nums(1), none, nums(1, 2), nums(2), true}, {nums(1), nums(1, 2), none, nums(2), true},
		{nums(1), none, list(), list(), true}, {nums(1), list(), none, list(), true}, {nums(1, 2), nums(1), none, list(), true}, {nums(1, 2), nums(1), nums(2), list(), true},
		{nums(1), nums(1, 1), nums(1, 1, 2), nums(1, 2), true}, {nums(1, 1), nums(1), nums(1, 1, 1), nums(1), true}, {none, nums(1, 1), nums(2, 2, 1), nums(1, 2), true},
		{nums(1, 2, 3), nums(3, 2, 1), nums(1, 3, 2), nums(1, 2, 3), true}, {nums(1, 2), nums(2, 1), nums(1, 2), nums(2, 1), true}, {nums(1, 2), nums(2, 1, 4), nums(1, 2, 3), nums(1, 2, 4, 3), true},
		{list(), none, none, none, true}, {none, list(), none, list(), true}, {list(), list(), none, none, true},
		{none, list(num(1), str("1")), list(link("1"), str("1")), list(num(1), str("1"), link("1")), true},
		{nums(1), list(num(2), span(1, 2)), list(span(1, 3), num(1)), list(num(2), span(1, 2), span(1, 3)), true},
		{none, ten, nums(10, 11, 12, 13, 14, 15, 16, 17, 18, 19), nums(0, 1, 2, 3, 4, 5, 6, 7, 8, 9, 10, 11, 12, 13, 14, 15, 16, 17, 18, 19), true},
		{none, ten, nums(9, 10, 11, 12, 13, 14, 15, 16, 17, 18, 19), nums(0, 1, 2, 3, 4, 5, 6, 7, 8, 9, 10, 11, 12, 13, 14, 15, 16, 17, 18, 19), true},
		{none, ten, nums(10, 11, 12, 13, 14, 15, 16, 17, 18, 19, 20), ten, false}, {list(), nums(10, 11, 12, 13, 14, 15, 16, 17, 18, 19, 20), ten, nums(10, 11, 12, 13, 14, 15, 16, 17, 18, 19, 20), false},
	} {
		if got, agreed := mergeOne(t, c.base, c.a, c.b); !same(got, c.want) || agreed != c.agreed {
			t.Errorf("Merge(%v, %v, %v) = %v, %v, want %v, %v", c.base, c.a, c.b, got, agreed, c.want, c.agreed)
		}
	}
}

func TestMergeOfNames(t *testing.T) {
	base := []api.Prop{pr("a", num(1)), pr("c", num(1)), pr("d", num(1)), pr("x", num(1))}
	a := []api.Prop{pr("a", num(2)), pr("b", num(2)), pr("c", num(1)), pr("e", num(2)), pr("x", num(2))}
	b := []api.Prop{pr("c", num(3)), pr("d", num(1)), pr("e", num(3)), pr("f", num(3)), pr("x", num(3))}
	want := []api.Prop{pr("a", num(2)), pr("b", num(2)), pr("c", num(3)), pr("e", num(2)), pr("f", num(3)), pr("x", num(2))}
	if got, names, bad := prop.Merge(base, a, b); !sameProps(got, want) || strings.Join(names, " ") != "a e x" || bad != api.OK {
		t.Error(got, names, bad)
	}
	if got, names, bad := prop.Merge(nil, nil, nil); len(got) != 0 || len(names) != 0 || bad != api.OK {
		t.Error(got, names, bad)
	}
}

func TestMergeErrors(t *testing.T) {
	byteWrong, rangeWrong, orderWrong := []api.Prop{pr("a", str("\n"))}, []api.Prop{pr("a", flag(2))}, []api.Prop{pr("b", num(1)), pr("a", num(1))}
	for _, c := range []struct {
		base, a, b []api.Prop
		want       api.Errno
	}{
		{byteWrong, rangeWrong, orderWrong, api.ErrByte}, {nil, rangeWrong, orderWrong, api.ErrRange}, {nil, nil, orderWrong, api.ErrOrder}, {nil, props(21), rangeWrong, api.ErrLarge},
		{nil, props(20), []api.Prop{pr("a", num(1))}, api.ErrLarge}, {props(20), props(20), append([]api.Prop{pr("a", num(1))}, props(19)...), api.OK},
		{props(20), props(20), append([]api.Prop{pr("a", num(1)), pr("b", num(1))}, props(18)...), api.OK}, {props(19), append([]api.Prop{pr("a", num(1))}, props(19)...), append([]api.Prop{pr("b", num(1))}, props(19)...), api.ErrLarge},
		{nil, props(20), props(20), api.OK}, {nil, append([]api.Prop{pr("a", num(1))}, props(19)...), props(20), api.ErrLarge},
	} {
		if got, names, bad := prop.Merge(c.base, c.a, c.b); bad != c.want || bad != api.OK && (len(got) > 0 || len(names) > 0) {
			t.Errorf("%v, %v, %v: %v, %v, %d", c.base, c.a, c.b, got, names, bad)
		}
	}
}

// modelMerge is the rule of P2.12, by what Text writes.
func modelMerge(base, a, b api.Value) (api.Value, bool) {
	text := func(v api.Value) string {
		s, _ := prop.Text(v)
		return s
	}
	switch text(a) {
	case text(base):
		return b, true
	case text(b):
		return a, true
	}
	if text(b) == text(base) {
		return a, true
	}
	lists := 0
	count := map[string][3]int{}
	for i, v := range []api.Value{base, a, b} {
		if v.Kind == api.None || v.Kind == api.List {
			lists++
		}
		for _, item := range v.Items {
			c := count[text(item)]
			c[i]++
			count[text(item)] = c
		}
	}
	if lists < 3 {
		if a.Kind == api.None {
			return b, false
		}
		return a, false
	}
	merged := list()
	for _, item := range slices.Concat(base.Items, a.Items, b.Items) {
		c := count[text(item)]
		if c[0] == 0 || c[1] > 0 && c[2] > 0 {
			merged.Items = append(merged.Items, item)
		}
		count[text(item)] = [3]int{1, 0, 0} // never again
	}
	return merged, true
}

func TestMergeByModel(t *testing.T) {
	var d dice
	agreements := 0
	for range 100000 {
		base, a, b := d.value(), d.value(), d.value()
		if d.next(2) > 0 {
			for _, v := range []*api.Value{&base, &a, &b} {
				*v = nums(d.next(3), d.next(3), d.next(3), d.next(5))
				v.Items = v.Items[:d.next(5)]
			}
		}
		want, agree := modelMerge(base, a, b)
		got, agreed := mergeOne(t, base, a, b)
		if !same(got, want) || agreed != agree {
			t.Fatalf("Merge(%v, %v, %v) = %v, %v, want %v, %v", base, a, b, got, agreed, want, agree)
		}
		if agreed {
			agreements++
		}
	}
	if agreements < 20000 || agreements > 80000 {
		t.Error(agreements)
	}
}

func TestMergeOfSameLists(t *testing.T) {
	var d dice
	names := []string{"a", "b", "c", "d", "e"}
	for range 5000 {
		x, y := d.list(names...), d.list(names...)
		for i, l := range [][3][]api.Prop{{x, x, y}, {x, y, x}, {x, y, y}} {
			if got, torn, bad := prop.Merge(l[0], l[1], l[2]); !sameProps(got, y) || len(torn) != 0 || bad != api.OK {
				t.Fatal(i, x, y, got, torn, bad)
			}
		}
	}
}

// Z11: names are in order, and a name is there if it is torn alone.
func TestMergeGivesNamesInOrder(t *testing.T) {
	var d dice
	for range 5000 {
		base, a, b := d.list("a", "a-", "b", "b1"), d.list("a", "a-", "b", "b1"), d.list("a", "a-", "b", "b1")
		got, torn, bad := prop.Merge(base, a, b)
		if bad != api.OK || prop.CheckProps(got) != api.OK || !slices.IsSorted(torn) || len(slices.Compact(slices.Clone(torn))) != len(torn) {
			t.Fatal(base, a, b, got, torn, bad)
		}
	}
}
