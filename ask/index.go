package ask

import (
	"cmp"
	"slices"

	"florilegium/api"
	"florilegium/tree"
)

// An Index has a base, and knows for what it says which blocks say it.
type Index struct {
	base  []api.Block
	notes notes
	found map[term]map[int]bool // ids; of a term that no block has there is no entry
}

// A term is what a condition asks for: of LinksTo a folded title, of Tagged a tag or a
// beginning of one, of Has a property; and of InPage the folded title of a page, which only that page has.
type term struct {
	op   int
	text string
}

// NewIndex gives an index of a base.
func NewIndex(base []api.Block) (*Index, api.Errno) {
	kept, _, bad := tree.All(base, nil) // no operations: this is a copy
	if bad != api.OK {
		return nil, bad
	}
	x := &Index{base: kept, notes: notesOf(kept), found: map[term]map[int]bool{}}
	for _, n := range x.notes.order {
		x.add(n)
	}
	return x, api.OK
}

// add takes a note's terms into the index.
func (x *Index) add(n *note) {
	for _, t := range n.terms() {
		if x.found[t] == nil {
			x.found[t] = map[int]bool{}
		}
		x.found[t][n.block.Id] = true
	}
}

// drop takes a note's terms out of the index.
func (x *Index) drop(n *note) {
	for _, t := range n.terms() {
		delete(x.found[t], n.block.Id)
		if len(x.found[t]) == 0 {
			delete(x.found, t)
		}
	}
}

// terms gives what an index knows of a note, some of it several times.
func (n *note) terms() []term {
	var terms []term
	for _, title := range n.says().links {
		terms = append(terms, term{LinksTo, title})
	}
	for _, tag := range n.says().tags {
		terms = append(terms, term{Tagged, tag})
		for i := range len(tag) {
			if tag[i] == '/' {
				terms = append(terms, term{Tagged, tag[:i]})
			}
		}
	}
	for _, p := range n.block.Props {
		terms = append(terms, term{Has, p.Name})
	}
	if n.isPage() {
		terms = append(terms, term{InPage, n.says().title})
	}
	return terms
}

// Apply does an operation.
func (x *Index) Apply(o tree.Op) api.Errno {
	base, bad := tree.Apply(x.base, o)
	if bad != api.OK {
		return bad
	}
	before := x.notes.byId
	x.base, x.notes = base, notesOf(base)
	for _, n := range x.notes.order {
		if n.block.Id != o.Id { // all others say what they said
			n.words = before[n.block.Id].words
		}
	}
	if was := before[o.Id]; was != nil {
		x.drop(was)
	}
	if n := x.notes.byId[o.Id]; n != nil {
		x.add(n)
	}
	return api.OK
}

// Base gives the base as it is now.
func (x *Index) Base() []api.Block {
	base, _, _ := tree.All(x.base, nil) // a copy
	return base
}

// Ask is Ask of the base as it is now.
func (x *Index) Ask(q Question) ([]Group, api.Errno) {
	if bad := CheckQuestion(q); bad != api.OK {
		return nil, bad
	}
	_, all := x.lead(q.Where)
	return groupsOf(q, where(all, nodeOf(q.Where))), api.OK
}

// Plan gives the condition that leads, and how many blocks it gives.
func (x *Index) Plan(c Cond) (Plan, api.Errno) {
	if bad := CheckCond(c); bad != api.OK {
		return Plan{}, bad
	}
	lead, all := x.lead(c)
	return Plan{Lead: lead, Count: len(all)}, api.OK
}

// lead gives the string of the condition that leads, and the notes for which it holds:
// all notes, if none can lead. They are in order.
func (x *Index) lead(c Cond) (string, []*note) {
	lead, least := "", x.notes.order
	for _, part := range parts(c) {
		given, can := x.given(nodeOf(part))
		if can && (lead == "" || len(given) < len(least)) {
			lead, least = condText(part), given
		}
	}
	return lead, least
}

// parts gives conditions that all hold where a condition does.
func parts(c Cond) []Cond {
	if c.Op != And {
		return []Cond{c}
	}
	var all []Cond
	for _, kid := range c.Kids {
		all = append(all, parts(kid)...)
	}
	return all
}

// given gives the notes for which a node that can lead holds, in order.
func (x *Index) given(n node) (all []*note, can bool) {
	switch n := n.(type) {
	case linking:
		return x.with(term{LinksTo, n.title}), true
	case tagged:
		return x.with(term{Tagged, n.tag}), true
	case having:
		return x.with(term{Has, n.name}), true
	case equal:
		return where(x.with(term{Has, n.name}), n), true
	case inPage:
		for _, page := range x.with(term{InPage, n.title}) {
			all = append(all, page)
			page.eachBelow(func(inside *note) { all = append(all, inside) })
		}
		return all, true
	}
	return nil, false
}

// with gives the notes that have a term, in order.
func (x *Index) with(t term) []*note {
	var all []*note
	for id := range x.found[t] {
		all = append(all, x.notes.byId[id])
	}
	slices.SortFunc(all, func(a, b *note) int { return cmp.Compare(a.at, b.at) })
	return all
}
