package tree

import (
	"strings"

	"florilegium/api"
	"florilegium/text"
)

// OutlineText writes what is below a block.
func OutlineText(base []api.Block, id int) (string, api.Errno) {
	all, bad := openWith(base, id)
	if bad != api.OK {
		return "", bad
	}
	var lines strings.Builder
	all.walk(id, 0, func(block *api.Block, depth int) {
		lines.WriteString(strings.Repeat("  ", depth) + "- " + block.Text + "\n")
	})
	return lines.String(), api.OK
}

// ReadOutline reads what OutlineText writes.
func ReadOutline(s string) ([]Line, api.Errno) {
	if len(s) > api.MaxBody {
		return nil, api.ErrLarge
	}
	var lines []Line
	deepest := 0
	for s != "" {
		written, rest, ended := strings.Cut(s, "\n")
		line, ok := parseLine(written)
		if !ok || !ended || line.Depth > deepest {
			return nil, api.ErrSyntax
		}
		lines = append(lines, line)
		deepest = line.Depth + 1
		s = rest
	}
	for _, line := range lines {
		if bad := text.Check(line.Text); bad != api.OK {
			return nil, bad
		}
	}
	if len(lines) > api.MaxBlocks {
		return nil, api.ErrLarge
	}
	return lines, api.OK
}

// parseLine gives the line of whose form s is.
func parseLine(s string) (Line, bool) {
	rest := strings.TrimLeft(s, " ")
	spaces := len(s) - len(rest)
	said, ok := strings.CutPrefix(rest, "- ")
	return Line{Depth: spaces / 2, Text: said}, ok && spaces%2 == 0
}

// Graft gives the operations that insert lines among a block's kids.
func Graft(base []api.Block, parent, at int, l []Line) ([]Op, api.Errno) {
	all, bad := openWith(base, parent)
	if bad != api.OK {
		return nil, bad
	}
	if at < 0 || at > len(all[parent].Kids) {
		return nil, api.ErrRange
	}
	if !isOutline(l) {
		return nil, api.ErrForm
	}
	return all.done(inserts(l, parent, at, idAfter(base))...)
}

// isOutline asks whether no line is too deep for the one before it.
func isOutline(l []Line) bool {
	deepest := 0
	for _, line := range l {
		if line.Depth < 0 || line.Depth > deepest {
			return false
		}
		deepest = line.Depth + 1
	}
	return true
}

// A place is where a block comes.
type place struct{ parent, at int }

// inserts gives an Insert for each line. The ids count from the given one on.
func inserts(l []Line, parent, at, id int) []Op {
	ops := make([]Op, len(l))
	next := []place{{parent, at}} // for each depth that the next line can have
	for i, line := range l {
		here := next[line.Depth]
		ops[i] = Op{Kind: Insert, Id: id + i, Parent: here.parent, At: here.at, Text: line.Text}
		next[line.Depth].at++
		next = append(next[:line.Depth+1], place{parent: id + i})
	}
	return ops
}
