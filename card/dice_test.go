package card_test

import (
	"math"
	"slices"
	"strings"

	"florilegium/api"
	"florilegium/card"
)

// dice gives numbers from 0 to below n, always the same ones in a row.
type dice uint32

func (d *dice) next(n int) int {
	*d = *d*1664525 + 1013904223
	return int(uint32(*d)>>8) % n
}

// one gives one of some things.
func one[T any](d *dice, things ...T) T {
	return things[d.next(len(things))]
}

// from gives a number from one to another one; many are near these.
func (d *dice) from(least, most int) int {
	near := d.next(min(5, most-least+1))
	return one(d, least+near, most-near, least+d.next(most-least+1))
}

// day gives a day; many are in the first weeks.
func (d *dice) day() int {
	return one(d, d.next(20), d.next(20), d.next(60), d.from(0, api.MaxDay))
}

func (d *dice) wildNumber() int {
	return one(d, math.MinInt, math.MinInt32, -2, -1, 0, 1, 5, 20, 21, 129, 130, 400, 401, 1500, 1501, 3650, 3651, 5000, 5001, 20_000, 20_001, api.MaxDay, api.MaxDay+1, api.MaxId, api.MaxId+1, math.MaxInt32, math.MaxInt)
}

// state gives a right state of a card.
func (d *dice) state(block, no int) card.State {
	x := card.State{Block: block, No: no, Ease: one(d, 250, d.from(card.MinEase, card.MaxEase)), Due: -1, Last: -1, Buried: one(d, -1, -1, -1, d.day())}
	if d.next(3) > 0 {
		x.Last = d.day()
		x.Step = one(d, 0, d.next(9), d.from(0, 30), d.from(0, card.MaxStep))
		x.Due = min(api.MaxDay, x.Last+one(d, x.Step, x.Step, d.next(20)))
		x.Times = one(d, 1+d.next(9), d.from(1, card.MaxReviews))
		x.Lapses = one(d, 0, d.from(0, x.Times))
	}
	return x
}

// states gives a right list of at most so many states.
func (d *dice) states(most int) []card.State {
	var l []card.State
	for _, id := range d.ids(most) {
		l = append(l, d.state(id[0], id[1]))
	}
	return l
}

// ids gives the blocks and numbers of at most so many cards, in order.
func (d *dice) ids(most int) [][2]int {
	var ids [][2]int
	for range d.next(most + 1) {
		ids = append(ids, [2]int{1 + d.next(6), 1 + d.next(4)})
	}
	slices.SortFunc(ids, func(a, b [2]int) int { return slices.Compare(a[:], b[:]) })
	return slices.Compact(ids)
}

// cards gives some cards, each once, in any order.
func (d *dice) cards(most int) []card.Card {
	var l []card.Card
	for _, id := range d.ids(most) {
		l = slices.Insert(l, d.next(len(l)+1), card.Card{Block: id[0], No: id[1], Front: one(d, "", "x")})
	}
	return l
}

func (d *dice) grades() []int {
	var l []int
	for range 1 + d.next(9) {
		l = append(l, card.Again+d.next(4))
	}
	return l
}

// reviews gives reviews of few cards on a few days.
func (d *dice) reviews(most int) []card.Review {
	var l []card.Review
	for range d.next(most + 1) {
		l = append(l, card.Review{Block: 1 + d.next(6), No: 1 + d.next(3), Grade: one(d, 1, 2, 3, 4, 3, d.next(9)-2), Day: one(d, d.next(5), d.next(20), d.day(), -1)})
	}
	return l
}

// text gives a string of which cards can be cut.
func (d *dice) text() string {
	var s strings.Builder
	for range d.next(12) {
		s.WriteString(one(d, ":", "::", ":::", " ", "{", "{{", "}", "}}", "|", "a", "b", "{{a}}", "{{b|c}}", "\xc3", "\n", "\xa4", "long words"))
	}
	return s.String()
}

// base gives a right base of pages and blocks.
func (d *dice) base(most int) []api.Block {
	l := []api.Block{{}}
	id := 0
	for range d.next(most + 1) {
		id += 1 + d.next(3)
		parent := &l[d.next(len(l))]
		b := api.Block{Id: id, Parent: parent.Id, Text: strings.ReplaceAll(d.text(), "\n", " ")}
		parent.Kids = slices.Insert(parent.Kids, d.next(len(parent.Kids)+1), id)
		l = append(l, b)
	}
	return l
}

// spoilt gives a string with some bytes more or less.
func (d *dice) spoilt(s string) string {
	for range d.next(3) {
		at := d.next(len(s) + 1)
		s = s[:at] + one(d, "", "", "0", "1", "9", "-", " ", "\n", "+", "00000", " 1") + s[min(len(s), at+d.next(3)):]
	}
	return s
}

// wildState gives a state in which something may be wrong.
func (d *dice) wildState() card.State {
	x := d.state(d.from(1, api.MaxId), d.from(1, card.MaxNumbers))
	for range d.next(3) {
		field := one(d, &x.Block, &x.No, &x.Step, &x.Ease, &x.Due, &x.Last, &x.Times, &x.Lapses, &x.Buried)
		*field = one(d, d.wildNumber(), d.wildNumber(), *field-1, *field+1)
	}
	return x
}
