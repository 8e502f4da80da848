package tree

import (
	"maps"
	"slices"

	"florilegium/api"
	"florilegium/prop"
)

// blocks has the blocks of a base by their ids. A caller, or the past of a
// history, may still have one of them: it is copied before it changes.
type blocks map[int]*api.Block

// walk calls visit with each block below one, in order, and with how deep it is,
// where a kid of the one has the given depth.
func (all blocks) walk(id, depth int, visit func(block *api.Block, depth int)) {
	for _, kid := range all[id].Kids {
		visit(all[kid], depth)
		all.walk(kid, depth+1, visit)
	}
}

func (all blocks) below(id int) []int {
	var ids []int
	all.walk(id, 1, func(block *api.Block, _ int) {
		ids = append(ids, block.Id)
	})
	return ids
}

// path gives the blocks from the page to a block, none for the root.
func (all blocks) path(id int) []int {
	var ids []int
	for id != 0 {
		ids = append(ids, id)
		id = all[id].Parent
	}
	slices.Reverse(ids)
	return ids
}

// height gives how many blocks are within one another, from a block on down.
func (all blocks) height(id int) int {
	height := 1
	all.walk(id, 2, func(_ *api.Block, depth int) {
		height = max(height, depth)
	})
	return height
}

// siblings gives the kids of a block's parent, and which one of them it is.
func (all blocks) siblings(id int) ([]int, int) {
	kids := all[all[id].Parent].Kids
	return kids, slices.Index(kids, id)
}

// list gives the base that has these blocks. It shares no memory with them.
func (all blocks) list() []api.Block {
	base := make([]api.Block, 0, len(all))
	for _, id := range slices.Sorted(maps.Keys(all)) {
		base = append(base, copyOf(*all[id]))
	}
	return base
}

// copyOf gives a block that shares no memory with another one.
func copyOf(block api.Block) api.Block {
	block.Kids = slices.Clone(block.Kids)
	block.Props = slices.Clone(block.Props)
	for i, p := range block.Props {
		block.Props[i].Value = copyOfValue(p.Value)
	}
	return block
}

// copyOfValue gives a value that shares no memory with another one, right or not:
// what prop.Get gives is new.
func copyOfValue(v api.Value) api.Value {
	copied, _ := prop.Get([]api.Prop{{Value: v}}, "")
	return copied
}
