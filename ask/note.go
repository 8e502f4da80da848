package ask

import (
	"florilegium/api"
	"florilegium/link"
	"florilegium/prop"
	"florilegium/text"
)

// Notes are the blocks of a right base, with what questions want to know of them.
type notes struct {
	byId  map[int]*note // the root, too
	order []*note       // without the root
}

// A note is a block. It shares memory with the base.
type note struct {
	block     api.Block
	parent    *note // nil: this is the root
	page      *note
	kids      []*note
	depth, at int   // at: its position in the order
	words     *said // nil, until somebody asks
}

// said is what a text says; A to Z are a to z, but in plain.
type said struct {
	plain, small string
	links, tags  []string // folded titles, small tags
	title        string   // the text as a folded title
}

// notesOf gives the notes of a right base.
func notesOf(base []api.Block) notes {
	all := notes{byId: make(map[int]*note, len(base))}
	for _, block := range base {
		all.byId[block.Id] = &note{block: block}
	}
	all.order = all.placed(nil, all.byId[0])
	return all
}

// placed tells the notes below one where they are, and adds them to the order.
func (all notes) placed(order []*note, parent *note) []*note {
	for _, id := range parent.block.Kids {
		n := all.byId[id]
		n.parent, n.depth, n.at, n.page = parent, parent.depth+1, len(order), parent.page
		if n.isPage() {
			n.page = n
		}
		parent.kids = append(parent.kids, n)
		order = all.placed(append(order, n), n)
	}
	return order
}

func (n *note) isPage() bool {
	return n.depth == 1
}

// eachBelow calls visit with each note below one, in order.
func (n *note) eachBelow(visit func(*note)) {
	for _, kid := range n.kids {
		visit(kid)
		kid.eachBelow(visit)
	}
}

// value gives the value of a property, as the base has it: prop.Get makes a copy, which
// those that compare many values do not need.
func (n *note) value(name string) (api.Value, bool) {
	for _, p := range n.block.Props {
		if p.Name == name {
			return p.Value, true
		}
	}
	return api.Value{}, false
}

// copyOfValue gives a value that shares no memory with another one: what prop.Get gives is new.
func copyOfValue(v api.Value) api.Value {
	copied, _ := prop.Get([]api.Prop{{Value: v}}, "")
	return copied
}

// says gives what the text says.
func (n *note) says() *said {
	if n.words == nil {
		n.words = saidIn(n.block.Text)
	}
	return n.words
}

func saidIn(s string) *said {
	plain := text.PlainOf(s)
	words := said{plain: plain, small: lower(plain), links: text.Links(s), tags: text.Tags(s), title: link.FoldTitle(s)}
	for i, title := range words.links {
		words.links[i] = link.FoldTitle(title)
	}
	for i, tag := range words.tags {
		words.tags[i] = lower(tag)
	}
	return &words
}

// lower gives a string with the letters A to Z as small ones. All other bytes stay.
func lower(s string) string {
	small := []byte(s)
	for i, c := range small {
		if 'A' <= c && c <= 'Z' {
			small[i] = c - 'A' + 'a'
		}
	}
	return string(small)
}
