package prop

import (
	"slices"

	"florilegium/api"
)

// Merge brings two lists together that were made from a base. The names are
// those for which both have made something of their own.
func Merge(base, a, b []api.Prop) ([]api.Prop, []string, api.Errno) {
	for _, l := range [][]api.Prop{base, a, b} {
		if bad := CheckProps(l); bad != api.OK {
			return nil, nil, bad
		}
	}
	var merged []api.Prop
	var torn []string
	for _, name := range namesOf(base, a, b) {
		ofBase, _ := Get(base, name) // None, if there is none
		ofA, _ := Get(a, name)
		ofB, _ := Get(b, name)
		v, agreed := mergeValues(ofBase, ofA, ofB)
		if v.Kind != api.None {
			merged = append(merged, api.Prop{Name: name, Value: v})
		}
		if !agreed {
			torn = append(torn, name)
		}
	}
	if len(merged) > api.MaxProps {
		return nil, nil, api.ErrLarge
	}
	return merged, torn, api.OK
}

// namesOf gives all names of some lists, in order.
func namesOf(lists ...[]api.Prop) []string {
	var names []string
	for _, l := range lists {
		for _, p := range l {
			names = append(names, p.Name)
		}
	}
	slices.Sort(names)
	return slices.Compact(names)
}

// mergeValues gives what becomes of the values of one name, and whether a and b agree.
func mergeValues(base, a, b api.Value) (api.Value, bool) {
	if Compare(a, base) == 0 {
		return b, true
	}
	if Compare(b, base) == 0 || Compare(a, b) == 0 {
		return a, true
	}
	if mayBeList(base) && mayBeList(a) && mayBeList(b) {
		items := mergeItems(base.Items, a.Items, b.Items)
		if len(items) <= api.MaxItems {
			return api.Value{Kind: api.List, Items: items}, true
		}
	}
	if a.Kind == api.None {
		return b, false
	}
	return a, false
}

// mayBeList asks whether a value counts as a List: None does, as the empty one.
func mayBeList(v api.Value) bool {
	return v.Kind == api.List || v.Kind == api.None
}

func mergeItems(base, a, b []api.Value) []api.Value {
	var items []api.Value
	add := func(from []api.Value, wanted func(api.Value) bool) {
		for _, item := range from {
			if wanted(item) && !has(items, item) {
				items = append(items, item)
			}
		}
	}
	add(base, func(item api.Value) bool { return has(a, item) && has(b, item) })
	add(a, func(item api.Value) bool { return !has(base, item) })
	add(b, func(item api.Value) bool { return !has(base, item) && !has(a, item) })
	return items
}

func has(items []api.Value, item api.Value) bool {
	return slices.ContainsFunc(items, func(other api.Value) bool { return Compare(other, item) == 0 })
}
