package copy

import (
	"slices"

	"florilegium/api"
	"florilegium/prop"
	"florilegium/tree"
)

// A Copy keeps the operations that it knows, and what the first ones of them
// have made. The lists within its operations never change: forks share them.
type Copy struct {
	number int
	ops    []Op // in the order of their stamps
	made   board
	done   int // how many of ops have made it
}

// New gives a copy that knows no operation.
func New(number int) (*Copy, api.Errno) {
	if !isCopy(number) {
		return nil, api.ErrRange
	}
	return &Copy{number: number}, api.OK
}

// Fork gives a copy with another number that knows the same.
func (c *Copy) Fork(number int) (*Copy, api.Errno) {
	fork, bad := New(number)
	if bad != api.OK {
		return nil, bad
	}
	if number == c.number {
		return nil, api.ErrTwice
	}
	fork.ops = slices.Clone(c.ops)
	return fork, api.OK
}

// now gives what all operations have made.
func (c *Copy) now() board {
	if c.made == nil {
		c.made = start()
	}
	for ; c.done < len(c.ops); c.done++ {
		c.made.do(c.ops[c.done])
	}
	return c.made
}

// forget makes all operations be done again when somebody asks what they make.
func (c *Copy) forget() {
	c.made, c.done = nil, 0
}

// learn adds operations that were not known.
func (c *Copy) learn(l []Op) {
	for _, o := range l {
		if c.done > 0 && Before(o.Stamp, c.ops[c.done-1].Stamp) {
			c.forget()
		}
	}
	c.ops = append(c.ops, copiesOf(l)...)
	slices.SortFunc(c.ops, compareOps)
}

// find gives the operation with a stamp, if it is known.
func (c *Copy) find(stamp Stamp) (Op, bool) {
	at, found := slices.BinarySearchFunc(c.ops, stamp, func(o Op, stamp Stamp) int {
		return compareStamps(o.Stamp, stamp)
	})
	if !found {
		return Op{}, false
	}
	return c.ops[at], true
}

// Number gives the copy's number.
func (c *Copy) Number() int {
	return c.number
}

// Time gives the greatest time of all operations that are known.
func (c *Copy) Time() int {
	if len(c.ops) == 0 {
		return 0
	}
	return c.ops[len(c.ops)-1].Stamp.Time
}

// Base gives the base of all operations that are known.
func (c *Copy) Base() []api.Block {
	return c.now().base()
}

// Gone gives the blocks that are gone.
func (c *Copy) Gone() []int {
	return c.now().gone()
}

// Spots gives the spots of the octets of a block's text.
func (c *Copy) Spots(id int) ([]Spot, api.Errno) {
	if _, found := tree.Get(c.Base(), id); !found || id == 0 {
		return nil, api.ErrNone
	}
	return c.now()[id].text.spots(), api.OK
}

// Fresh gives an id for the copy's next block.
func (c *Copy) Fresh() int {
	id := 1
	for _, o := range c.ops {
		if o.Kind == Insert {
			id = max(id, o.Id+1)
		}
	}
	for id%MaxCopies != c.number {
		id++
	}
	return id
}

// Ops gives all operations that are known, in the order of their stamps.
func (c *Copy) Ops() []Op {
	return copiesOf(c.ops)
}

// copiesOf gives right operations that share no memory with others.
func copiesOf(l []Op) []Op {
	copies := slices.Clone(l)
	for i := range copies {
		copies[i].Spots = slices.Clone(copies[i].Spots)
		copies[i].Value = copyOfValue(copies[i].Value)
	}
	return copies
}

// copyOfValue gives a value that shares no memory with another one: what prop.Get gives is new.
func copyOfValue(v api.Value) api.Value {
	copied, _ := prop.Get([]api.Prop{{Value: v}}, "")
	return copied
}
