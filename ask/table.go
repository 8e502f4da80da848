package ask

import (
	"florilegium/api"
	"florilegium/tree"
)

// Table gives a row for each of some blocks, with a value for each column.
func Table(base []api.Block, ids []int, columns []string) ([][]api.Value, api.Errno) {
	if bad := tree.Check(base); bad != api.OK {
		return nil, bad
	}
	if len(ids) > api.MaxBlocks || len(columns) > MaxColumns {
		return nil, api.ErrLarge
	}
	all := notesOf(base)
	for _, id := range ids {
		if all.byId[id] == nil || id == 0 {
			return nil, api.ErrNone
		}
	}
	for _, column := range columns {
		if bad := checkBy(column); bad != api.OK {
			return nil, bad
		}
	}
	rows := make([][]api.Value, len(ids))
	for i, id := range ids {
		rows[i] = make([]api.Value, len(columns))
		for k, column := range columns {
			rows[i][k] = all.byId[id].cell(column)
		}
	}
	return rows, api.OK
}

// cell gives what a note has for a column.
func (n *note) cell(column string) api.Value {
	switch column {
	case ById:
		return api.Value{Kind: api.Number, Int: n.block.Id}
	case ByText:
		return api.Value{Kind: api.String, Text: n.says().plain}
	case ByDepth:
		return api.Value{Kind: api.Number, Int: n.depth}
	}
	v, _ := n.value(column) // None, if there is none
	return copyOfValue(v)
}
