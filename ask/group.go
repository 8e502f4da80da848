package ask

import (
	"slices"

	"florilegium/api"
	"florilegium/tree"
)

// Ask gives what a question finds, sorted, in groups.
func Ask(base []api.Block, q Question) ([]Group, api.Errno) {
	if bad := tree.Check(base); bad != api.OK {
		return nil, bad
	}
	if bad := CheckQuestion(q); bad != api.OK {
		return nil, bad
	}
	return groupsOf(q, where(notesOf(base).order, nodeOf(q.Where))), api.OK
}

// groupsOf gives the groups of what a question has found, which must be in order.
func groupsOf(q Question, found []*note) []Group {
	sortNotes(found, q.Sorts)
	if q.Group == "" {
		return []Group{groupOf(q, api.Value{}, found)}
	}
	// The groups are sorted as notes are; what is equal stays together, in the order that it has.
	byValue := Sort{By: q.Group}
	sortNotes(found, []Sort{byValue})
	var groups []Group
	for len(found) > 0 {
		first := found[0]
		size := slices.IndexFunc(found, func(n *note) bool { return byValue.compareValues(first, n) != 0 })
		if size < 0 {
			size = len(found)
		}
		value, _ := first.value(q.Group) // None, if there is none
		groups = append(groups, groupOf(q, copyOfValue(value), found[:size]))
		found = found[size:]
	}
	return groups
}

// groupOf gives a group of the first ones of some notes.
func groupOf(q Question, value api.Value, all []*note) Group {
	if q.Most != 0 {
		all = all[:min(q.Most, len(all))]
	}
	return Group{Value: value, Ids: idsOf(all)}
}

// SameGroups asks whether two lists of groups are equal.
func SameGroups(a, b []Group) bool {
	return tree.Same(asBlocks(a), asBlocks(b))
}

// asBlocks gives blocks that are equal just where groups are: the package tree knows how to
// compare values, however deep they are.
func asBlocks(groups []Group) []api.Block {
	blocks := make([]api.Block, len(groups))
	for i, g := range groups {
		blocks[i] = api.Block{Kids: g.Ids, Props: []api.Prop{{Value: g.Value}}}
	}
	return blocks
}
