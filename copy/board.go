package copy

import (
	"slices"

	"florilegium/api"
)

// A block is what operations have made of a block, with all that a base does not show.
type block struct {
	parent int
	gone   bool
	kids   row[int] // those that are gone, too
	text   script
	props  map[string]api.Value
}

// A board has all blocks by their ids.
type board map[int]*block

// start gives the board on which nothing was done.
func start() board {
	return board{0: {}}
}

// do does an operation, if there is what it is about.
func (all board) do(o Op) {
	if o.Kind == Insert {
		all.insert(o)
		return
	}
	b := all[o.Id]
	if b == nil {
		return
	}
	switch o.Kind {
	case Move:
		all.move(o)
	case Remove:
		b.gone = true
	case Type:
		b.text.put(o.Stamp, o.After, o.Octets)
	case Erase:
		b.text.erase(o.Spots)
	case SetProp:
		b.set(o.Name, o.Value)
	}
}

func (all board) insert(o Op) {
	if all[o.Id] != nil || all[o.Parent] == nil {
		return
	}
	b := &block{props: map[string]api.Value{}}
	b.text.put(o.Stamp, Spot{}, o.Octets)
	all[o.Id] = b
	all.place(o)
}

func (all board) move(o Op) {
	if all[o.Parent] == nil || all.isWithin(o.Parent, o.Id) {
		return
	}
	above := all[all[o.Id].parent]
	at := slices.Index(above.kids, o.Id)
	above.kids = slices.Delete(above.kids, at, at+1)
	all.place(o)
}

// place makes a block that is nobody's kid one of Parent.
func (all board) place(o Op) {
	parent, b := all[o.Parent], all[o.Id]
	if o.Left == 0 {
		parent.kids.putFirst(o.Id)
	} else {
		parent.kids.putAfter(o.Id, func(kid int) bool { return kid == o.Left })
	}
	b.parent, b.gone = o.Parent, false
}

// isWithin asks whether a block is another one, or below it.
func (all board) isWithin(id, above int) bool {
	for id != 0 && id != above {
		id = all[id].parent
	}
	return id == above
}

func (b *block) set(name string, v api.Value) {
	if v.Kind == api.None {
		delete(b.props, name)
	} else {
		b.props[name] = v
	}
}
