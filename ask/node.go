package ask

import (
	"slices"
	"strings"

	"florilegium/api"
	"florilegium/link"
	"florilegium/prop"
)

// A node is a right condition as it is asked of the blocks of one base. It shares memory
// with the condition.
type node interface {
	holds(n *note) bool
}

// nodeOf gives the node of a condition.
func nodeOf(c Cond) node {
	switch c.Op {
	case And:
		return every{nodesOf(c.Kids)}
	case Or:
		return some{nodesOf(c.Kids)}
	case Not:
		return no{nodeOf(c.Kids[0])}
	case Says:
		return saying{lower(c.Text)}
	case LinksTo:
		return linking{link.FoldTitle(c.Text)}
	case Tagged:
		return tagged{lower(c.Text)}
	case InPage:
		return inPage{link.FoldTitle(c.Text)}
	case IsPage:
		return isPage{}
	case Deep:
		return deep{c.Num}
	case Under:
		return under{c.Num}
	case Has:
		return having{c.Name}
	case Equal:
		return equal{c.Name, c.Value}
	case Less:
		return beyond{c.Name, c.Value, -1}
	case More:
		return beyond{c.Name, c.Value, 1}
	case Parent:
		return above{nodeOf(c.Kids[0]), answers{}}
	case SomeKid:
		return nextBelow{nodeOf(c.Kids[0]), answers{}}
	default: // SomeBelow
		return below{nodeOf(c.Kids[0]), answers{}}
	}
}

func nodesOf(conds []Cond) []node {
	nodes := make([]node, len(conds))
	for i, c := range conds {
		nodes[i] = nodeOf(c)
	}
	return nodes
}

type every struct{ kids []node }

func (e every) holds(n *note) bool {
	return !slices.ContainsFunc(e.kids, func(kid node) bool { return !kid.holds(n) })
}

type some struct{ kids []node }

func (s some) holds(n *note) bool {
	return slices.ContainsFunc(s.kids, func(kid node) bool { return kid.holds(n) })
}

type no struct{ kid node }

func (x no) holds(n *note) bool {
	return !x.kid.holds(n)
}

type saying struct{ small string }

func (s saying) holds(n *note) bool {
	return strings.Contains(n.says().small, s.small)
}

type linking struct{ title string }

func (l linking) holds(n *note) bool {
	return slices.Contains(n.says().links, l.title)
}

type tagged struct{ tag string }

func (t tagged) holds(n *note) bool {
	return slices.ContainsFunc(n.says().tags, func(tag string) bool {
		return tag == t.tag || strings.HasPrefix(tag, t.tag+"/")
	})
}

type inPage struct{ title string }

func (p inPage) holds(n *note) bool {
	return n.page.says().title == p.title
}

type isPage struct{}

func (isPage) holds(n *note) bool {
	return n.isPage()
}

type deep struct{ depth int }

func (d deep) holds(n *note) bool {
	return n.depth >= d.depth
}

type under struct{ id int }

func (u under) holds(n *note) bool {
	for around := n.parent; around != nil; around = around.parent {
		if around.block.Id == u.id {
			return true
		}
	}
	return false
}

type having struct{ name string }

func (h having) holds(n *note) bool {
	_, has := n.value(h.name)
	return has
}

type equal struct {
	name  string
	value api.Value
}

func (e equal) holds(n *note) bool {
	v, has := n.value(e.name)
	return has && prop.Compare(v, e.value) == 0
}

type beyond struct {
	name  string
	value api.Value
	side  int // -1: below the value, 1: above it
}

func (b beyond) holds(n *note) bool {
	v, has := n.value(b.name)
	return has && v.Kind == b.value.Kind && prop.Compare(v, b.value) == b.side
}

// Answers are what a node that looks at other blocks has found for some. Without them a
// condition that goes up and down by turns would ask of the same blocks again and again.
type answers map[int]bool

// of gives the answer for a note. It asks just once.
func (a answers) of(n *note, ask func() bool) bool {
	answer, known := a[n.block.Id]
	if !known {
		answer = ask()
		a[n.block.Id] = answer
	}
	return answer
}

type above struct {
	kid   node
	known answers
}

func (a above) holds(n *note) bool {
	return !n.isPage() && a.known.of(n.parent, func() bool { return a.kid.holds(n.parent) })
}

type nextBelow struct {
	kid   node
	known answers
}

func (b nextBelow) holds(n *note) bool {
	return b.known.of(n, func() bool { return slices.ContainsFunc(n.kids, b.kid.holds) })
}

type below struct {
	kid   node
	known answers
}

func (b below) holds(n *note) bool {
	return b.known.of(n, func() bool {
		return slices.ContainsFunc(n.kids, func(kid *note) bool { return b.kid.holds(kid) || b.holds(kid) })
	})
}
