package tree

import (
	"slices"

	"florilegium/api"
	"florilegium/prop"
	"florilegium/text"
)

// Apply gives the base after an operation.
func Apply(base []api.Block, o Op) ([]api.Block, api.Errno) {
	next, _, bad := All(base, []Op{o})
	return next, bad
}

// All gives the base after some operations, or the number of the first one that cannot be done.
func All(base []api.Block, l []Op) ([]api.Block, int, api.Errno) {
	all, bad := open(base)
	if bad != api.OK {
		return nil, 0, bad
	}
	if at, bad := all.doAll(l...); bad != api.OK {
		return nil, at, bad
	}
	return all.list(), 0, api.OK
}

// doAll does operations up to one that cannot be done, of which it gives the number.
func (all blocks) doAll(ops ...Op) (int, api.Errno) {
	for i, o := range ops {
		if _, bad := all.do(o); bad != api.OK {
			return i, bad
		}
	}
	return 0, api.OK
}

// A change puts one block in the place of another one. A block that is nil is not there.
type change struct {
	id            int
	before, after *api.Block
}

// do does an operation, if it may be done, and gives what it has changed, in order.
func (all blocks) do(o Op) ([]change, api.Errno) {
	if bad := all.check(o); bad != api.OK {
		return nil, bad
	}
	switch o.Kind {
	case Insert:
		block := api.Block{Id: o.Id, Parent: o.Parent, Text: o.Text}
		return []change{all.replace(o.Id, &block), all.addKid(o)}, api.OK
	case Remove:
		return []change{all.dropKid(o.Id), all.replace(o.Id, nil)}, api.OK
	}
	block := *all[o.Id]
	switch o.Kind {
	case Move:
		block.Parent = o.Parent
		return []change{all.dropKid(o.Id), all.replace(o.Id, &block), all.addKid(o)}, api.OK
	case Edit:
		block.Text, _ = text.Apply(block.Text, editOf(o))
	case SetProp:
		block.Props, _ = prop.Put(block.Props, o.Name, o.Value)
	}
	return []change{all.replace(o.Id, &block)}, api.OK
}

func (all blocks) replace(id int, after *api.Block) change {
	made := change{id: id, before: all[id], after: after}
	all.put(id, after)
	return made
}

func (all blocks) put(id int, block *api.Block) {
	if block == nil {
		delete(all, id)
	} else {
		all[id] = block
	}
}

// addKid gives a block to its new parent.
func (all blocks) addKid(o Op) change {
	parent := *all[o.Parent]
	parent.Kids = slices.Insert(slices.Clone(parent.Kids), o.At, o.Id)
	return all.replace(parent.Id, &parent)
}

// dropKid takes a block from its parent.
func (all blocks) dropKid(id int) change {
	parent := *all[all[id].Parent]
	_, at := all.siblings(id)
	parent.Kids = slices.Delete(slices.Clone(parent.Kids), at, at+1)
	return all.replace(parent.Id, &parent)
}

// Inverse gives the operation that makes the base again of what o makes of it.
func Inverse(base []api.Block, o Op) (Op, api.Errno) {
	all, bad := open(base)
	if bad != api.OK {
		return Op{}, bad
	}
	if bad := all.check(o); bad != api.OK {
		return Op{}, bad
	}
	if o.Kind == Insert {
		return Op{Kind: Remove, Id: o.Id}, api.OK
	}
	block := all[o.Id]
	_, at := all.siblings(o.Id)
	switch o.Kind {
	case Remove:
		if len(block.Props) > 0 {
			return Op{}, api.ErrState
		}
		return Op{Kind: Insert, Id: o.Id, Parent: block.Parent, At: at, Text: block.Text}, api.OK
	case Move:
		return Op{Kind: Move, Id: o.Id, Parent: block.Parent, At: at}, api.OK
	case Edit:
		back, bad := text.Inverse(block.Text, editOf(o))
		return Op{Kind: Edit, Id: o.Id, From: back.From, To: back.To, Text: back.With}, bad
	default: // SetProp
		was, _ := prop.Get(block.Props, o.Name)
		return Op{Kind: SetProp, Id: o.Id, Name: o.Name, Value: was}, api.OK
	}
}
