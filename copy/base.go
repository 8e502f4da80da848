package copy

import (
	"cmp"
	"maps"
	"slices"

	"florilegium/api"
	"florilegium/tree"
)

// Replay gives the base of some operations, and the blocks that are gone.
func Replay(l []Op) ([]api.Block, []int, api.Errno) {
	if bad := checkOps(l); bad != api.OK {
		return nil, nil, bad
	}
	ordered := slices.Clone(l)
	slices.SortFunc(ordered, compareOps)
	all := start()
	for i, o := range ordered {
		if i > 0 && o.Stamp == ordered[i-1].Stamp {
			return nil, nil, api.ErrTwice
		}
		all.do(o)
	}
	return all.base(), all.gone(), api.OK
}

// A view is what a base shows of a board.
type view struct {
	all    board
	blocks []api.Block
}

func (all board) base() []api.Block {
	v := view{all: all}
	v.add(0, 0)
	slices.SortFunc(v.blocks, func(a, b api.Block) int { return cmp.Compare(a.Id, b.Id) })
	return v.blocks
}

// add adds a block, and what is shown below it, in order: so what there is no
// room for is the end of that order.
func (v *view) add(id, depth int) {
	at, b := len(v.blocks), v.all[id]
	v.blocks = append(v.blocks, api.Block{Id: id, Parent: b.parent, Text: b.text.text(), Props: b.shownProps()})
	if depth == api.MaxDeep {
		return
	}
	var kids []int
	for _, kid := range b.kids {
		if len(kids) == tree.MaxKids || len(v.blocks) == api.MaxBlocks {
			break
		}
		if !v.all[kid].gone {
			kids = append(kids, kid)
			v.add(kid, depth+1)
		}
	}
	v.blocks[at].Kids = kids
}

func (b *block) shownProps() []api.Prop {
	var props []api.Prop
	for _, name := range slices.Sorted(maps.Keys(b.props)) {
		if len(props) < api.MaxProps {
			props = append(props, api.Prop{Name: name, Value: copyOfValue(b.props[name])})
		}
	}
	return props
}

// gone gives the blocks that are not in the base.
func (all board) gone() []int {
	others := maps.Clone(all)
	for _, b := range all.base() {
		delete(others, b.Id)
	}
	return slices.Sorted(maps.Keys(others))
}
