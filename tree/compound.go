package tree

import (
	"slices"

	"florilegium/api"
)

// Prune gives the operations that remove a block with all that is below it.
func Prune(base []api.Block, id int) ([]Op, api.Errno) {
	all, bad := openBelow(base, id)
	if bad != api.OK {
		return nil, bad
	}
	ids := append([]int{id}, all.below(id)...)
	var ops []Op
	for _, id := range slices.Backward(ids) {
		ops = append(ops, removal(all[id])...)
	}
	return ops, api.OK
}

// removal gives the operations that remove a block without kids, so that each one has an inverse.
func removal(block *api.Block) []Op {
	var ops []Op
	for _, p := range block.Props {
		ops = append(ops, Op{Kind: SetProp, Id: block.Id, Name: p.Name})
	}
	return append(ops, Op{Kind: Remove, Id: block.Id})
}

// Indent gives the Move that makes a block the last kid of the one before it.
func Indent(base []api.Block, id int) (Op, api.Errno) {
	all, bad := openBelow(base, id)
	if bad != api.OK {
		return Op{}, bad
	}
	kids, at := all.siblings(id)
	if at == 0 {
		return Op{}, api.ErrState
	}
	before := kids[at-1]
	return all.checked(Op{Kind: Move, Id: id, Parent: before, At: len(all[before].Kids)})
}

// Outdent gives the Move that makes a block the next sibling of its parent.
func Outdent(base []api.Block, id int) (Op, api.Errno) {
	all, bad := openBelow(base, id)
	if bad != api.OK {
		return Op{}, bad
	}
	parent := all[id].Parent
	if parent == 0 {
		return Op{}, api.ErrState
	}
	_, at := all.siblings(parent)
	return all.checked(Op{Kind: Move, Id: id, Parent: all[parent].Parent, At: at + 1})
}

// checked gives an operation, if it may be done.
func (all blocks) checked(o Op) (Op, api.Errno) {
	if bad := all.check(o); bad != api.OK {
		return Op{}, bad
	}
	return o, api.OK
}

// done gives operations, if they may be done, one after the other. It does them to see that.
func (all blocks) done(ops ...Op) ([]Op, api.Errno) {
	if _, bad := all.doAll(ops...); bad != api.OK {
		return nil, bad
	}
	return ops, api.OK
}

// Split gives the operations that make of a block's text from a position on a block of its own.
func Split(base []api.Block, id, at int) ([]Op, api.Errno) {
	all, bad := openBelow(base, id)
	if bad != api.OK {
		return nil, bad
	}
	block := all[id]
	if at < 0 || at > len(block.Text) {
		return nil, api.ErrRange
	}
	if !isId(idAfter(base)) {
		return nil, api.ErrFull
	}
	_, position := all.siblings(id)
	return all.done(
		Op{Kind: Edit, Id: id, From: at, To: len(block.Text)},
		Op{Kind: Insert, Id: idAfter(base), Parent: block.Parent, At: position + 1, Text: block.Text[at:]},
	)
}

// Join gives the operations that bring the next sibling's text and kids into a block.
func Join(base []api.Block, id int) ([]Op, api.Errno) {
	all, bad := openBelow(base, id)
	if bad != api.OK {
		return nil, bad
	}
	kids, at := all.siblings(id)
	if at+1 == len(kids) {
		return nil, api.ErrState
	}
	block, next := all[id], all[kids[at+1]]
	ops := []Op{{Kind: Edit, Id: id, From: len(block.Text), To: len(block.Text), Text: next.Text}}
	for i, kid := range next.Kids {
		ops = append(ops, Op{Kind: Move, Id: kid, Parent: id, At: len(block.Kids) + i})
	}
	ops = append(ops, removal(next)...)
	return all.done(ops...)
}
