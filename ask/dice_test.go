package ask_test

import (
	"math"
	"slices"
	"strings"

	"florilegium/api"
	"florilegium/ask"
	"florilegium/tree"
)

// dice gives numbers from 0 to below n, always the same ones in a row.
type dice uint32

func (d *dice) next(n int) int {
	*d = *d*1664525 + 1013904223
	return int(uint32(*d)>>8) % n
}

// one gives one of some things.
func one[T any](d *dice, things ...T) T {
	return things[d.next(len(things))]
}

// base gives a right base of at most most blocks. Ids have gaps, and are not in the base's order.
func (d *dice) base(most int) []api.Block {
	l := []api.Block{{}}
	id := 0
	for range d.next(most) {
		id += 1 + d.next(2)
		l = append(l, api.Block{Id: id, Text: d.text(), Props: d.props()})
	}
	placed := []int{0} // where in l they are
	for _, i := range d.shuffled(len(l) - 1) {
		block, parent := &l[i+1], &l[placed[d.next(len(placed))]]
		block.Parent = parent.Id
		if block.Parent == 0 && d.next(4) > 0 {
			block.Text = d.title()
		}
		parent.Kids = slices.Insert(parent.Kids, d.next(len(parent.Kids)+1), block.Id)
		placed = append(placed, i+1)
	}
	return l
}

func (d *dice) shuffled(count int) []int {
	var l []int
	for i := range count {
		l = slices.Insert(l, d.next(i+1), i)
	}
	return l
}

// title gives one of a few titles, of which some are the same when folded.
func (d *dice) title() string {
	return one(d, "cat", "Cat", "cat", "big dog", "Big  DOG", " dog", "dog ", "\u00c9", "\u00e9", "a\x80", "1")
}

// tag gives one of a few tags, of which some are below others.
func (d *dice) tag() string {
	return one(d, "t", "T", "t/u", "T/U", "t/u/v", "tt", "t_", "u", "u//v", "\u00c9")
}

// text gives a text of a few pieces, with links and tags.
func (d *dice) text() string {
	var s strings.Builder
	for range d.next(6) {
		switch d.next(5) {
		case 0:
			s.WriteString("[[" + d.title() + one(d, "", "", "|Cat", "|x") + "]]")
		case 1:
			s.WriteString(one(d, "#", " #", " #", "##") + d.tag() + one(d, "", " ", ","))
		default:
			s.WriteString(one(d, "a", "A", "b", "ab", " ", "\\#t ", "`[[cat]]`", "**", "((1))", "\u00e9", "cat", "dog"))
		}
	}
	return s.String()
}

func (d *dice) props() []api.Prop {
	var l []api.Prop
	for _, name := range []string{"m", "n", "o"} {
		if d.next(2) == 0 {
			l = append(l, api.Prop{Name: name, Value: d.value(true)})
		}
	}
	return l
}

// value gives a right value; there are not many.
func (d *dice) value(lists bool) api.Value {
	switch d.next(9) {
	case 0:
		return api.Value{Kind: api.Flag, Int: d.next(2)}
	case 1:
		return str(one(d, "", "a", "A", "b, ", ")", `"`, `\`, "[[", "]]", "]"))
	case 2:
		return api.Value{Kind: api.Date, Int: 5000 + d.next(3)}
	case 3:
		return api.Value{Kind: api.Span, Int: 5000 + d.next(2), To: 5002 + d.next(2)}
	case 4:
		return api.Value{Kind: api.Link, Text: one(d, "cat", "a, b", ")", `"`, `\"`, "a`")}
	case 5, 6:
		if lists {
			v := api.Value{Kind: api.List}
			for range d.next(3) {
				v.Items = append(v.Items, d.value(false))
			}
			return v
		}
	}
	return num(d.next(5) - 1)
}

// cond gives a right condition that is at most so deep, and has not too many nodes.
func (d *dice) cond(deep int) ask.Cond {
	op := 1 + d.next(17)
	name := one(d, "m", "n", "o", "p")
	switch op {
	case ask.Says:
		return words(op, one(d, "a", "A", "ab", "t", "cat", " ", "\u00c9", "#T", "dog", `"`, `\`))
	case ask.LinksTo, ask.InPage:
		return words(op, strings.Trim(d.title(), " ")+one(d, "", "", "", "\x7f", `"`))
	case ask.Tagged:
		return words(op, d.tag())
	case ask.IsPage:
		return page()
	case ask.Deep:
		return number(op, d.next(5))
	case ask.Under:
		return number(op, d.next(20))
	case ask.Has:
		return has(name)
	case ask.Equal, ask.Less, ask.More:
		return value(op, name, d.value(true))
	}
	if deep <= 1 {
		return one(d, page(), has(name), kids(ask.And), kids(ask.Or))
	}
	if op != ask.And && op != ask.Or {
		return kids(op, d.cond(deep-1))
	}
	c := kids(op)
	for range d.next(4) {
		c.Kids = append(c.Kids, d.cond(deep-1))
	}
	return c
}

// question gives a right question.
func (d *dice) question() ask.Question {
	q := ask.Question{Where: d.cond(3), Group: one(d, "", "m", "n", "p"), Most: one(d, 0, 0, 1, 2, 3, api.MaxBlocks)}
	if d.next(3) == 0 {
		q.Where = kids(ask.And)
	}
	for _, i := range d.shuffled(6)[:d.next(4)] {
		by := []string{ask.ById, ask.ByText, ask.ByDepth, "m", "n", "p"}[i]
		q.Sorts = append(q.Sorts, ask.Sort{By: by, Down: d.next(2) == 0})
	}
	return q
}

// op gives an operation for a base, most often one that can be done.
func (d *dice) op(l []api.Block) tree.Op {
	id := l[d.next(len(l))].Id
	switch d.next(7) {
	case 0:
		return insert(one(d, tree.NextId(l), 1+d.next(40)), id, d.next(3), d.text())
	case 1:
		return remove(id)
	case 2:
		return move(id, l[d.next(len(l))].Id, d.next(2))
	case 3:
		return set(id, one(d, "m", "n", "p"), api.Value{})
	case 4:
		return edit(id, 0, 0, d.title())
	case 5:
		b, _ := tree.Get(l, id)
		from := d.next(len(b.Text) + 1)
		return edit(id, from, from+d.next(len(b.Text)-from+1), one(d, "", "", "a", " #t ", "[[cat]]"))
	}
	return set(id, one(d, "m", "n", "p"), d.value(true))
}

func (d *dice) wildNumber() int {
	return one(d, math.MinInt, math.MinInt32, -1, 0, 1, 2, 3, 5, 17, 18, api.MaxId, api.MaxId+1, math.MaxInt32, math.MaxInt)
}

// wildCond gives a condition with something wrong in it, most often.
func (d *dice) wildCond() ask.Cond {
	c := d.cond(4)
	at := &c
	for len(at.Kids) > 0 && d.next(3) > 0 {
		at = &at.Kids[d.next(len(at.Kids))]
	}
	switch d.next(8) {
	case 0:
		at.Op = d.wildNumber()
	case 1:
		at.Name = one(d, "", "A", "n", "a b", strings.Repeat("n", 21))
	case 2:
		at.Text = one(d, "", "\n", "[", " a", "1", strings.Repeat("t", 201))
	case 3:
		at.Num = d.wildNumber()
	case 4:
		at.Value = api.Value{Kind: d.next(10) - 1, Int: d.wildNumber(), Text: one(d, "", "a", "\n")}
	case 5:
		at.Value.Items = []api.Value{{Kind: api.List, Items: []api.Value{{}}}}
	case 6:
		at.Kids = append(at.Kids, d.cond(2))
	}
	return c
}
