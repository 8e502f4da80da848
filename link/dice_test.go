package link_test

import (
	"slices"
	"strings"

	"florilegium/api"
)

// dice gives numbers from 0 to below n, always the same ones in a row.
type dice uint32

func (d *dice) next(n int) int {
	*d = *d*1664525 + 1013904223
	return int(uint32(*d)>>8) % n
}

// one gives one of some things.
func one[T any](d *dice, things ...T) T {
	return things[d.next(len(things))]
}

// base gives a right base of at most most blocks. Ids have gaps, and are not in the base's order.
func (d *dice) base(most int) []api.Block {
	l := []api.Block{{}}
	id := 0
	for range d.next(most) {
		id += 1 + d.next(2)
		l = append(l, api.Block{Id: id, Text: d.text()})
	}
	placed := []int{0} // where in l they are
	for _, i := range d.shuffled(len(l) - 1) {
		at := placed[d.next(len(placed))]
		if d.next(2) == 0 {
			at = 0
		}
		block, parent := &l[i+1], &l[at]
		block.Parent = parent.Id
		if at == 0 {
			block.Text = d.title()
		}
		block.Props = d.props()
		parent.Kids = slices.Insert(parent.Kids, d.next(len(parent.Kids)+1), block.Id)
		placed = append(placed, i+1)
	}
	return l
}

func (d *dice) shuffled(count int) []int {
	var l []int
	for i := range count {
		l = slices.Insert(l, d.next(i+1), i)
	}
	return l
}

// title gives one of a few titles, of which some are the same when folded.
func (d *dice) title() string {
	return one(d, "cats", "Cats", "dog", "DOG", "big dog", "Big  Dog", "dog house", "é", "-x", "1", "12", "a", " owl ", "owl", "[[cats]] #t", "", "b*", "**")
}

// text gives a text of a few pieces, with links, mentions, references and tags.
func (d *dice) text() string {
	var s strings.Builder
	for range d.next(9) {
		switch d.next(8) {
		case 0, 1:
			s.WriteString("[[" + d.title() + one(d, "", "|dog", "|x|y") + "]]")
		case 2, 3:
			s.WriteString(d.title())
		case 4:
			s.WriteString(one(d, "#t", "#t/u", "#t/u/v", "#u", "#t_", "##t", "#12", "#t//u") + one(d, "", " "))
		case 5:
			s.WriteString("((" + one(d, "1", "2", "3", "5", "9", "30", "1000000", "0") + "))")
		default:
			s.WriteString(one(d, " ", " ", ", ", "`", "**", "*", "\\", "[", "[[", "]]", "é", "s", "1", "/", "-", "#", "dog ho"))
		}
	}
	return s.String()
}

func (d *dice) props() []api.Prop {
	var l []api.Prop
	for _, name := range []string{"a", "alias", "b"} {
		if d.next(4) == 0 {
			l = append(l, api.Prop{Name: name, Value: d.value(true)})
		}
	}
	return l
}

// value gives a right value; most of them are names.
func (d *dice) value(lists bool) api.Value {
	switch d.next(6) {
	case 0:
		return api.Value{Kind: api.Number, Int: d.next(9)}
	case 1, 2:
		return api.Value{Kind: api.Link, Text: one(d, "cats", "DOG", "dog", "big dog", "owl", "`", "none", "é")}
	case 3:
		if lists {
			v := api.Value{Kind: api.List}
			for range d.next(4) {
				v.Items = append(v.Items, d.value(false))
			}
			return v
		}
	}
	return api.Value{Kind: api.String, Text: d.title()}
}
