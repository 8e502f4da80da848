package tree

import (
	"slices"

	"florilegium/api"
)

// Same asks whether two bases are equal in all.
func Same(a, b []api.Block) bool {
	return slices.EqualFunc(a, b, sameBlock)
}

func sameBlock(a, b api.Block) bool {
	if a.Id != b.Id || a.Parent != b.Parent || a.Text != b.Text {
		return false
	}
	return slices.Equal(a.Kids, b.Kids) && slices.EqualFunc(a.Props, b.Props, sameProp)
}

func sameProp(a, b api.Prop) bool {
	return a.Name == b.Name && sameValues([]api.Value{a.Value}, []api.Value{b.Value})
}

// sameValues keeps a list of what it still has to compare: wrong values can be
// nested deeper than calls can be.
func sameValues(a, b []api.Value) bool {
	todo := [][2][]api.Value{{a, b}}
	for len(todo) > 0 {
		last := todo[len(todo)-1]
		todo = todo[:len(todo)-1]
		if !slices.EqualFunc(last[0], last[1], sameFields) {
			return false
		}
		for i := range last[0] {
			todo = append(todo, [2][]api.Value{last[0][i].Items, last[1][i].Items})
		}
	}
	return true
}

// sameFields compares two values but for their Items.
func sameFields(a, b api.Value) bool {
	return a.Kind == b.Kind && a.Int == b.Int && a.To == b.To && a.Text == b.Text
}
