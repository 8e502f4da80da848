package copy

import (
	"slices"

	"florilegium/api"
	"florilegium/tree"
)

// Do does to the base what tree.Apply would, and gives the operations that do it.
func (c *Copy) Do(o tree.Op) ([]Op, api.Errno) {
	wanted, bad := tree.Apply(c.Base(), o)
	if bad != api.OK {
		return nil, bad
	}
	if o.Kind == tree.Insert && o.Id%MaxCopies != c.number {
		return nil, api.ErrForm
	}
	if o.Kind == tree.Insert && c.now()[o.Id] != nil {
		return nil, api.ErrTwice
	}
	l := c.opsOf(o, wanted)
	if bad := c.checkRoom(len(l)); bad != api.OK {
		return nil, bad
	}
	c.learn(l)
	if !tree.Same(c.Base(), wanted) {
		c.unlearn(len(l))
		return nil, api.ErrState
	}
	return copiesOf(l), api.OK
}

// checkRoom says whether so many more operations can be done.
func (c *Copy) checkRoom(count int) api.Errno {
	if count > MaxOps-len(c.ops) {
		return api.ErrFull
	}
	if count > MaxTime-c.Time() {
		return api.ErrLarge
	}
	return api.OK
}

// unlearn takes the last operations away again.
func (c *Copy) unlearn(count int) {
	c.ops = slices.Delete(c.ops, len(c.ops)-count, len(c.ops))
	c.forget()
}

// A batch has operations of one copy, one time after the other.
type batch struct {
	last Stamp
	ops  []Op
}

// batch gives one that begins after all that is known.
func (c *Copy) batch() batch {
	return batch{last: Stamp{Time: c.Time(), Copy: c.number}}
}

// add gives an operation its stamp.
func (b *batch) add(o Op) {
	b.last.Time++
	o.Stamp = b.last
	b.ops = append(b.ops, o)
}

// opsOf gives what an operation is of which tree.Apply has made the wanted base.
func (c *Copy) opsOf(o tree.Op, wanted []api.Block) []Op {
	b := c.batch()
	switch o.Kind {
	case tree.Insert:
		b.add(Op{Kind: Insert, Id: o.Id, Parent: o.Parent, Left: leftOf(wanted, o.Parent, o.At), Octets: o.Text})
	case tree.Remove:
		b.add(Op{Kind: Remove, Id: o.Id})
	case tree.Move:
		b.add(Op{Kind: Move, Id: o.Id, Parent: o.Parent, Left: leftOf(wanted, o.Parent, o.At)})
	case tree.Edit:
		b.addEdit(o, c.now()[o.Id].text.spots())
	case tree.SetProp:
		b.add(Op{Kind: SetProp, Id: o.Id, Name: o.Name, Value: o.Value})
	}
	return b.ops
}

// leftOf gives the kid before a position, or 0.
func leftOf(base []api.Block, parent, at int) int {
	if at == 0 {
		return 0
	}
	b, _ := tree.Get(base, parent)
	return b.Kids[at-1]
}

// addEdit adds what an edit of a text with these spots is.
func (b *batch) addEdit(o tree.Op, spots []Spot) {
	var after Spot
	if o.From > 0 {
		after = spots[o.From-1]
	}
	erased := spots[o.From:o.To]
	slices.SortFunc(erased, compareSpots)
	for part := range slices.Chunk(erased, MaxRun) {
		b.add(Op{Kind: Erase, Id: o.Id, Spots: part})
	}
	for part := range slices.Chunk([]byte(o.Text), MaxRun) {
		b.add(Op{Kind: Type, Id: o.Id, After: after, Octets: string(part)})
		after = Spot{Stamp: b.last, At: len(part) - 1}
	}
}

// Restore places a block again that is gone.
func (c *Copy) Restore(id, parent, at int) (Op, api.Errno) {
	above, found := tree.Get(c.Base(), parent)
	if !found || !slices.Contains(c.Gone(), id) {
		return Op{}, api.ErrNone
	}
	if !isFrom(at, 0, len(above.Kids)) {
		return Op{}, api.ErrRange
	}
	if bad := c.checkRoom(1); bad != api.OK {
		return Op{}, bad
	}
	b := c.batch()
	b.add(Op{Kind: Move, Id: id, Parent: parent, Left: leftOf([]api.Block{above}, parent, at)})
	c.learn(b.ops)
	return b.ops[0], api.OK
}
