package copy_test

import (
	"math"
	"slices"
	"strings"

	"florilegium/api"
	"florilegium/copy"
	"florilegium/tree"
)

// dice gives numbers from 0 to below n, always the same ones in a row.
type dice uint32

func (d *dice) next(n int) int {
	*d = *d*1664525 + 1013904223
	return int(uint32(*d)>>8) % n
}

// one gives one of some things.
func one[T any](d *dice, things ...T) T {
	return things[d.next(len(things))]
}

func (d *dice) shuffled(l []copy.Op) []copy.Op {
	var all []copy.Op
	for _, o := range l {
		all = slices.Insert(all, d.next(len(all)+1), o)
	}
	return all
}

// some gives some of a list, in its order.
func (d *dice) some(l []copy.Op) []copy.Op {
	var some []copy.Op
	for _, o := range l {
		if d.next(3) > 0 {
			some = append(some, o)
		}
	}
	return some
}

func (d *dice) value() api.Value {
	return one(d, api.Value{}, num(d.next(9)-4), str(one(d, "", "x", "\"\\")), list(num(1), str("y")), list(), api.Value{Kind: api.Link, Text: "a b"}, api.Value{Kind: api.Date, Int: 8465}, api.Value{Kind: api.Span, Int: 1, To: 3}, api.Value{Kind: api.Flag, Int: 1})
}

func (d *dice) name() string {
	return one(d, "a", "b-1", "c", "n")
}

func (d *dice) octets(most int) string {
	return "abcdefgh\"\\ \xc3\xa4~"[d.next(6):][:1+d.next(most)]
}

// history gives right operations of some copies on a few blocks, in the order of their
// stamps. Some of them have no effect, and some stamps are left out.
func (d *dice) history(most int) []copy.Op {
	var l []copy.Op
	ids, spots := []int{0}, []copy.Spot{{}}
	s := at(1, 0)
	for range d.next(most + 1) {
		if s.Copy += 1 + d.next(3); s.Copy > 4 {
			s = at(s.Time+1+d.next(2), d.next(3))
		}
		o := d.op(s, ids, spots)
		if o.Kind == copy.Insert {
			ids = append(ids, o.Id)
		}
		for i := range o.Octets {
			spots = append(spots, copy.Spot{Stamp: s, At: i})
		}
		l = append(l, o)
	}
	return l
}

// op gives a right operation of which most is about some blocks and octets.
func (d *dice) op(s copy.Stamp, ids []int, spots []copy.Spot) copy.Op {
	known := func() int { return one(d, append(slices.Clone(ids), 1+d.next(90))...) }
	block := func() int { return max(1, known()) }
	fresh := s.Copy + copy.MaxCopies*(1+d.next(3))
	if s.Copy > 0 {
		fresh -= copy.MaxCopies * d.next(2)
	}
	place := func(id int) (int, int) {
		parent, left := known(), known()
		if parent == id {
			parent = 0
		}
		if left == id {
			left = 0
		}
		return parent, left
	}
	switch 1 + d.next(8) {
	case copy.Move:
		id := block()
		parent, left := place(id)
		return moved(s, id, parent, left)
	case copy.Remove:
		return removed(s, block())
	case copy.Type, 7:
		return typed(s, block(), spots[d.next(len(spots))], d.octets(4))
	case copy.Erase:
		if l := d.spots(spots); len(l) > 0 {
			return erased(s, block(), l...)
		}
	case copy.SetProp:
		return given(s, block(), d.name(), d.value())
	}
	parent, left := place(fresh)
	return inserted(s, fresh, parent, left, one(d, "", d.octets(5)))
}

// spots gives some of a list but for the zero one, in order.
func (d *dice) spots(l []copy.Spot) []copy.Spot {
	var some []copy.Spot
	from := d.next(len(l))
	for _, s := range l[from:min(len(l), from+9)] {
		if s != (copy.Spot{}) && d.next(3) > 0 {
			some = append(some, s)
		}
	}
	slices.SortFunc(some, func(a, b copy.Spot) int {
		return slices.Compare([]int{a.Stamp.Time, a.Stamp.Copy, a.At}, []int{b.Stamp.Time, b.Stamp.Copy, b.At})
	})
	return some
}

func (d *dice) wildNumber() int {
	return one(d, math.MinInt, math.MinInt32, -16, -1, 0, 0, 1, 1, 2, 3, 5, 15, 16, 17, api.MaxString, api.MaxString+1, api.MaxId, api.MaxId+1, copy.MaxTime, copy.MaxTime+1, math.MaxInt32, math.MaxInt)
}

func (d *dice) wildSpot() copy.Spot {
	return spot(d.wildNumber(), d.wildNumber(), d.wildNumber())
}

func (d *dice) wildValue(deep int) api.Value {
	v := api.Value{Kind: d.next(10) - 1, Int: d.wildNumber(), To: d.wildNumber(), Text: one(d, "", "a", "\n")}
	if deep > 0 {
		for range d.next(3) {
			v.Items = append(v.Items, d.wildValue(deep-1))
		}
	}
	return v
}

// spoilt gives an operation in which something may be wrong.
func (d *dice) spoilt(o copy.Op) copy.Op {
	o.Spots = slices.Clone(o.Spots)
	for range 1 + d.next(3) {
		switch d.next(14) {
		case 0:
			o.Stamp.Time = d.wildNumber()
		case 1:
			o.Stamp.Copy = d.wildNumber()
		case 2:
			o.Kind = d.next(9) - 1
		case 3:
			o.Id = d.wildNumber()
		case 4:
			o.Id += d.next(3) - 1
		case 5:
			o.Parent = one(d, d.wildNumber(), o.Id)
		case 6:
			o.Left = one(d, d.wildNumber(), o.Id)
		case 7:
			o.After = one(d, d.wildSpot(), copy.Spot{Stamp: o.Stamp}, spot(1, 0, 0), copy.Spot{})
		case 8:
			o.Octets = one(d, "", "x", "\n", "\x7f", strings.Repeat("x", copy.MaxRun+1), strings.Repeat("x", api.MaxString+1), strings.Repeat("\n", copy.MaxRun))
		case 9:
			o.Spots = append(o.Spots, one(d, d.wildSpot(), copy.Spot{Stamp: o.Stamp}, spot(1, 0, 0)))
		case 10:
			if len(o.Spots) > 0 {
				o.Spots[d.next(len(o.Spots))].At = d.wildNumber()
			}
		case 11:
			o.Spots = one(d, nil, []copy.Spot{}, make([]copy.Spot, 1), make([]copy.Spot, copy.MaxRun+1), spotsFrom(0, copy.MaxRun+d.next(2)))
		case 12:
			o.Name = one(d, "", "n", "A", strings.Repeat("n", api.MaxName+1))
		case 13:
			o.Value = one(d, d.wildValue(2), api.Value{}, num(1))
		}
	}
	return o
}

// treeOp gives an operation for a base, often one that can be done by the copy with a number.
func (d *dice) treeOp(l []api.Block, number int) tree.Op {
	b := l[d.next(len(l))]
	if d.next(9) == 0 {
		b = api.Block{Id: one(d, -1, 0, 7, 500, api.MaxId, api.MaxId+1)}
	}
	parent := one(d, l[d.next(len(l))], l[0])
	switch d.next(7) {
	case 0, 1:
		return insert(one(d, number+copy.MaxCopies*(1+d.next(9)), number+copy.MaxCopies*(1+d.next(9)), b.Id, 1+d.next(90)), parent.Id, d.next(len(parent.Kids)+1), one(d, "", d.octets(5)))
	case 2:
		return remove(b.Id)
	case 3:
		return move(b.Id, parent.Id, d.next(len(parent.Kids)+1))
	case 4, 5:
		from := d.next(len(b.Text) + 1)
		to := from + d.next(len(b.Text)-from+1)
		return edit(b.Id, from, one(d, from, to), one(d, "", d.octets(4), d.octets(4)))
	}
	return set(b.Id, d.name(), d.value())
}

// spoiltTreeOp gives an operation in which something may be wrong.
func (d *dice) spoiltTreeOp(o tree.Op) tree.Op {
	switch d.next(8) {
	case 0:
		o.Kind = d.wildNumber()
	case 1:
		o.Id = d.wildNumber()
	case 2:
		o.Parent = d.wildNumber()
	case 3:
		o.At = d.wildNumber()
	case 4:
		o.From, o.To = d.wildNumber(), d.wildNumber()
	case 5:
		o.Text = one(d, "\n", strings.Repeat("x", api.MaxString+1))
	case 6:
		o.Name = one(d, "", "A", "n")
	case 7:
		o.Value = d.wildValue(2)
	}
	return o
}

// spoiltLines gives a string with some bytes or words more, less, or other ones.
func (d *dice) spoiltLines(s string) string {
	for range d.next(3) {
		from := d.next(len(s) + 1)
		s = s[:from] + one(d, "", "", "0", "1", "9", "-", " ", "\n", "\"", "\\", "x", "00000", " 1", "0 0", " 1 1 1", "erase", "type", "set") + s[min(len(s), from+d.next(3)):]
	}
	if words := strings.Split(s, " "); d.next(2) == 0 {
		words[d.next(len(words))] = words[d.next(len(words))]
		s = strings.Join(words, " ")
	}
	return s
}
