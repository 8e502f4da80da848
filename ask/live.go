package ask

import (
	"slices"

	"florilegium/api"
	"florilegium/tree"
)

// A Live is a question that goes along with a base.
type Live struct {
	index    Index
	question Question
	groups   []Group // as they are now
}

// NewLive gives a live question of a base.
func NewLive(base []api.Block, q Question) (*Live, api.Errno) {
	x, bad := NewIndex(base)
	if bad != api.OK {
		return nil, bad
	}
	groups, bad := x.Ask(q)
	if bad != api.OK {
		return nil, bad
	}
	q.Where = copyOfCond(q.Where)
	q.Sorts = slices.Clone(q.Sorts)
	return &Live{index: *x, question: q, groups: groups}, api.OK
}

// Apply does an operation, and says whether the groups are others than before.
func (l *Live) Apply(o tree.Op) (bool, api.Errno) {
	if bad := l.index.Apply(o); bad != api.OK {
		return false, bad
	}
	before := l.groups
	l.groups, _ = l.index.Ask(l.question)
	return !SameGroups(before, l.groups), api.OK
}

// Groups gives what the question finds now.
func (l *Live) Groups() []Group {
	groups := slices.Clone(l.groups)
	for i, g := range groups {
		groups[i] = Group{Value: copyOfValue(g.Value), Ids: slices.Clone(g.Ids)}
	}
	return groups
}

func copyOfCond(c Cond) Cond {
	c.Value = copyOfValue(c.Value)
	c.Kids = slices.Clone(c.Kids)
	for i, kid := range c.Kids {
		c.Kids[i] = copyOfCond(kid)
	}
	return c
}
