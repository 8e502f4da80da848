package prop_test

import (
	"slices"
	"strings"

	"florilegium/api"
)

// Values and lists in short.

func flag(n int) api.Value              { return api.Value{Kind: api.Flag, Int: n} }
func num(n int) api.Value               { return api.Value{Kind: api.Number, Int: n} }
func str(s string) api.Value            { return api.Value{Kind: api.String, Text: s} }
func day(n int) api.Value               { return api.Value{Kind: api.Date, Int: n} }
func span(from, to int) api.Value       { return api.Value{Kind: api.Span, Int: from, To: to} }
func link(s string) api.Value           { return api.Value{Kind: api.Link, Text: s} }
func list(l ...api.Value) api.Value     { return api.Value{Kind: api.List, Items: l} }
func nums(l ...int) api.Value           { return list(numbers(l...)...) }
func pr(n string, v api.Value) api.Prop { return api.Prop{Name: n, Value: v} }

func numbers(l ...int) []api.Value {
	var values []api.Value
	for _, n := range l {
		values = append(values, num(n))
	}
	return values
}

// same asks whether all fields of two values are equal, where empty and nil lists are the same.
func same(a, b api.Value) bool {
	return a.Kind == b.Kind && a.Int == b.Int && a.To == b.To && a.Text == b.Text && slices.EqualFunc(a.Items, b.Items, same)
}

func sameProps(a, b []api.Prop) bool {
	return slices.EqualFunc(a, b, func(p, q api.Prop) bool { return p.Name == q.Name && same(p.Value, q.Value) })
}

// isZero asks whether a value has zero values alone.
func isZero(v api.Value) bool {
	return same(v, api.Value{})
}

// props gives a right list with so many names: n10, n11 and so on.
func props(count int) []api.Prop {
	var l []api.Prop
	for i := range count {
		l = append(l, pr("n"+string([]byte{byte('0' + i/10), byte('0' + i%10)}), num(i)))
	}
	return l
}

// cloned gives a list that shares no memory.
func cloned(l []api.Prop) []api.Prop {
	l = slices.Clone(l)
	for i := range l {
		l[i].Value.Items = slices.Clone(l[i].Value.Items)
	}
	return l
}

func second[T any](_ T, bad api.Errno) api.Errno {
	return bad
}

// dice gives numbers from 0 to below n, always the same ones in a row.
type dice uint32

func (d *dice) next(n int) int {
	*d = *d*1664525 + 1013904223
	return int(uint32(*d)>>8) % n
}

// word gives a string of at most most of the pieces.
func (d *dice) word(most int, pieces ...string) string {
	var word strings.Builder
	for range d.next(most + 1) {
		word.WriteString(pieces[d.next(len(pieces))])
	}
	return word.String()
}

// value gives a right value, small so that two are often equal.
func (d *dice) value() api.Value {
	kind := d.next(api.List + 1)
	if kind < api.List {
		return d.single(kind)
	}
	v := list()
	for range d.next(4) {
		v.Items = append(v.Items, d.single(1+d.next(api.List-1)))
	}
	return v
}

func (d *dice) single(kind int) api.Value {
	switch kind {
	case api.Flag:
		return flag(d.next(2))
	case api.Number:
		return num([]int{0, 1, -1, 7, -20, api.MaxNumber, -api.MaxNumber}[d.next(7)])
	case api.String:
		return str(d.word(3, "a", "B", `"`, `\`, ", ", "]", "[", "é", "\xff", "5", "-", " "))
	case api.Date:
		return day([]int{0, 1, 8465, 58, api.MaxDay}[d.next(5)])
	case api.Span:
		from := d.next(3)
		return span(from, from+d.next(3)*1000)
	case api.Link:
		return link("a" + d.word(2, "b", " C", `"`, `\`, ", ", "é", "(", "`", "..") + "z")
	}
	return api.Value{}
}

// list gives a right list of properties.
func (d *dice) list(names ...string) []api.Prop {
	var l []api.Prop
	for _, name := range names {
		if v := d.value(); v.Kind != api.None {
			l = append(l, pr(name, v))
		}
	}
	return l
}
