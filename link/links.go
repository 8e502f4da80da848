package link

import (
	"cmp"
	"slices"

	"florilegium/api"
	"florilegium/text"
)

// eachLink calls visit with each link of the base.
func (b book) eachLink(visit func(Link)) {
	for _, block := range b.base {
		for _, span := range marks(block, text.Link) {
			visit(Link{Block: block.Id, From: span.From, To: span.To, Title: span.Text, Page: b.leadsTo(span.Text)})
		}
		for _, p := range block.Props {
			eachOf(api.Link, &p.Value, func(v *api.Value) {
				visit(Link{Block: block.Id, Prop: p.Name, Title: v.Text, Page: b.leadsTo(v.Text)})
			})
		}
	}
}

// linksWhere gives the links that a test lets through.
func (b book) linksWhere(wanted func(Link) bool) []Link {
	var links []Link
	b.eachLink(func(l Link) {
		if wanted(l) {
			links = append(links, l)
		}
	})
	return links
}

// Links gives all links.
func Links(base []api.Block) ([]Link, api.Errno) {
	b, bad := open(base)
	if bad != api.OK {
		return nil, bad
	}
	return b.linksWhere(func(Link) bool { return true }), api.OK
}

// Back gives the links that lead to a page.
func Back(base []api.Block, page int) ([]Link, api.Errno) {
	b, bad := openAt(base, page)
	if bad != api.OK {
		return nil, bad
	}
	return b.linksWhere(func(l Link) bool { return l.Page == page }), api.OK
}

// refsOf gives the ids to which a block's references are, rising, each once.
func refsOf(block api.Block) []int {
	return once(text.Refs(marked(block)))
}

// has asks whether there is a block with an id.
func (b book) has(id int) bool {
	_, found := slices.BinarySearchFunc(b.base, id, func(block api.Block, id int) int {
		return cmp.Compare(block.Id, id)
	})
	return found
}

// Refs gives the blocks with a reference to a block.
func Refs(base []api.Block, block int) ([]int, api.Errno) {
	b, bad := open(base)
	if bad != api.OK {
		return nil, bad
	}
	if !b.has(block) {
		return nil, api.ErrNone
	}
	var ids []int
	for _, other := range base {
		if slices.Contains(refsOf(other), block) {
			ids = append(ids, other.Id)
		}
	}
	return ids, api.OK
}

// Broken gives the links that lead to no page, and the references to no block.
func Broken(base []api.Block) ([]Link, []Pair, api.Errno) {
	b, bad := open(base)
	if bad != api.OK {
		return nil, nil, bad
	}
	var pairs []Pair
	for _, block := range base {
		for _, id := range refsOf(block) {
			if !b.has(id) {
				pairs = append(pairs, Pair{Block: block.Id, To: id})
			}
		}
	}
	return b.linksWhere(func(l Link) bool { return l.Page == 0 }), pairs, api.OK
}
