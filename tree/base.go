package tree

import (
	"slices"

	"florilegium/api"
	"florilegium/prop"
	"florilegium/text"
)

// Empty gives the base of the root alone.
func Empty() []api.Block {
	return []api.Block{{}}
}

// Check says whether a base may be.
func Check(base []api.Block) api.Errno {
	_, bad := open(base)
	return bad
}

// open gives the blocks of a base by their ids, if the base may be.
// They are those of the base itself: who keeps them opens a copy.
func open(base []api.Block) (blocks, api.Errno) {
	if len(base) == 0 {
		return nil, api.ErrForm
	}
	if len(base) > api.MaxBlocks {
		return nil, api.ErrLarge
	}
	all := make(blocks, len(base))
	for i := range base {
		if bad := checkBlock(base, i); bad != api.OK {
			return nil, bad
		}
		all[base[i].Id] = &base[i]
	}
	for i := range base {
		if bad := all.checkKids(base[i]); bad != api.OK {
			return nil, bad
		}
	}
	if bad := all.checkDepths(base); bad != api.OK {
		return nil, bad
	}
	return all, api.OK
}

// checkBlock looks at one block alone, and at the id of the one before.
func checkBlock(base []api.Block, i int) api.Errno {
	block := base[i]
	if i == 0 && block.Id != 0 || i > 0 && !isId(block.Id) {
		return api.ErrRange
	}
	if i > 0 && block.Id <= base[i-1].Id {
		return api.ErrOrder
	}
	if i == 0 && (block.Text != "" || len(block.Props) > 0 || block.Parent != 0) {
		return api.ErrForm
	}
	if bad := text.Check(block.Text); bad != api.OK {
		return bad
	}
	if len(block.Kids) > MaxKids {
		return api.ErrLarge
	}
	return prop.CheckProps(block.Props)
}

// isId asks whether a block that is not the root can have an id.
func isId(id int) bool {
	return 1 <= id && id <= api.MaxId
}

func (all blocks) checkKids(block api.Block) api.Errno {
	for i, id := range block.Kids {
		kid, ok := all[id]
		if !ok {
			return api.ErrNone
		}
		if kid.Parent != block.Id || id == 0 {
			return api.ErrForm
		}
		if slices.Contains(block.Kids[:i], id) {
			return api.ErrTwice
		}
	}
	return api.OK
}

// checkDepths goes down from the root. This ends: checkKids has found that no
// block is among the kids of two, or twice among those of one.
func (all blocks) checkDepths(base []api.Block) api.Errno {
	depths := make(map[int]int, len(base))
	all.walk(0, 1, func(block *api.Block, depth int) {
		depths[block.Id] = depth
	})
	for _, block := range base[1:] {
		depth, reached := depths[block.Id]
		if !reached {
			return api.ErrLoop
		}
		if depth > api.MaxDeep {
			return api.ErrDeep
		}
	}
	return api.OK
}

// openWith is open for a function that needs a certain block.
func openWith(base []api.Block, id int) (blocks, api.Errno) {
	all, bad := open(base)
	if bad != api.OK {
		return nil, bad
	}
	if all[id] == nil {
		return nil, api.ErrNone
	}
	return all, api.OK
}

// openBelow is openWith for a block that must not be the root.
func openBelow(base []api.Block, id int) (blocks, api.Errno) {
	all, bad := openWith(base, id)
	if bad == api.OK && id == 0 {
		return nil, api.ErrNone
	}
	return all, bad
}

// Get gives the first block with an id.
func Get(base []api.Block, id int) (api.Block, bool) {
	for _, block := range base {
		if block.Id == id {
			return copyOf(block), true
		}
	}
	return api.Block{}, false
}

// Pages gives the pages.
func Pages(base []api.Block) []int {
	all, bad := open(base)
	if bad != api.OK {
		return nil
	}
	return slices.Clone(all[0].Kids)
}

// Order gives all blocks but the root, each one before what is below it.
func Order(base []api.Block) []int {
	all, bad := open(base)
	if bad != api.OK {
		return nil
	}
	return all.below(0)
}

// Depth gives how deep a block is.
func Depth(base []api.Block, id int) (int, api.Errno) {
	all, bad := openWith(base, id)
	if bad != api.OK {
		return 0, bad
	}
	return len(all.path(id)), api.OK
}

// Path gives the blocks from a block's page to it.
func Path(base []api.Block, id int) ([]int, api.Errno) {
	all, bad := openWith(base, id)
	if bad != api.OK {
		return nil, bad
	}
	return all.path(id), api.OK
}

// Below gives all blocks below a block, each one before what is below it.
func Below(base []api.Block, id int) ([]int, api.Errno) {
	all, bad := openWith(base, id)
	if bad != api.OK {
		return nil, bad
	}
	return all.below(id), api.OK
}

// PageOf gives the page in which a block is.
func PageOf(base []api.Block, id int) (int, api.Errno) {
	all, bad := openBelow(base, id)
	if bad != api.OK {
		return 0, bad
	}
	return all.path(id)[0], api.OK
}

// NextId gives the id above all others, or -1, if no block can have it.
func NextId(base []api.Block) int {
	if Check(base) != api.OK || !isId(idAfter(base)) {
		return -1
	}
	return idAfter(base)
}

// idAfter gives the id above all others, also where no block can have it.
// The base must be right: its last block has the greatest id then.
func idAfter(base []api.Block) int {
	return base[len(base)-1].Id + 1
}
