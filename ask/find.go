package ask

import (
	"florilegium/api"
	"florilegium/tree"
)

// open gives the notes of a base and the node of a condition, if both are right.
func open(base []api.Block, c Cond) (notes, node, api.Errno) {
	if bad := tree.Check(base); bad != api.OK {
		return notes{}, nil, bad
	}
	if bad := CheckCond(c); bad != api.OK {
		return notes{}, nil, bad
	}
	return notesOf(base), nodeOf(c), api.OK
}

// Holds asks whether a condition holds for a block.
func Holds(base []api.Block, c Cond, id int) (bool, api.Errno) {
	all, condition, bad := open(base, c)
	if bad != api.OK {
		return false, bad
	}
	if all.byId[id] == nil || id == 0 {
		return false, api.ErrNone
	}
	return condition.holds(all.byId[id]), api.OK
}

// Find gives the blocks for which a condition holds.
func Find(base []api.Block, c Cond) ([]int, api.Errno) {
	all, condition, bad := open(base, c)
	if bad != api.OK {
		return nil, bad
	}
	return idsOf(where(all.order, condition)), api.OK
}

// where gives the notes for which a condition holds, in their order.
func where(all []*note, condition node) []*note {
	var found []*note
	for _, n := range all {
		if condition.holds(n) {
			found = append(found, n)
		}
	}
	return found
}

func idsOf(all []*note) []int {
	ids := make([]int, len(all))
	for i, n := range all {
		ids[i] = n.block.Id
	}
	return ids
}
