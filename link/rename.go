package link

import (
	"slices"
	"strings"

	"florilegium/api"
	"florilegium/text"
	"florilegium/tree"
)

// Rename gives the base in which a page has another title, and what led to it by its title still does.
func Rename(base []api.Block, page int, title string) ([]api.Block, []int, api.Errno) {
	b, bad := openAt(base, page)
	if bad != api.OK {
		return nil, nil, bad
	}
	if !isTarget(title) || strings.Contains(title, "\x7f") {
		return nil, nil, api.ErrName
	}
	if b.isTaken(title, page) {
		return nil, nil, api.ErrTwice
	}
	was := FoldTitle(b.pages[page].Text)
	return changed(base, func(block *api.Block) {
		retarget(block, func(target string) string {
			if b.leadsTo(target) == page && FoldTitle(target) == was {
				return title
			}
			return target
		})
		if block.Id == page {
			block.Text = title
		}
	})
}

// isTaken asks whether a title of a page would be that of another one, or an alias,
// or would let a link lead to the page that does not.
func (b book) isTaken(title string, page int) bool {
	folded := FoldTitle(title)
	if b.aliases[folded] != 0 {
		return true
	}
	for id, other := range b.pages {
		if id != page && FoldTitle(other.Text) == folded {
			return true
		}
	}
	found := b.linksWhere(func(l Link) bool { return l.Page != page && FoldTitle(l.Title) == folded })
	return len(found) > 0
}

// changed gives a right base after a change of its blocks, and the blocks that have become others.
func changed(base []api.Block, change func(block *api.Block)) ([]api.Block, []int, api.Errno) {
	next, _, _ := tree.All(base, nil) // no operations: this is a copy
	var ids []int
	for i := range next {
		change(&next[i])
		if len(next[i].Text) > api.MaxString {
			return nil, nil, api.ErrLarge
		}
		if !tree.Same(next[i:i+1], base[i:i+1]) {
			ids = append(ids, next[i].Id)
		}
	}
	return next, ids, api.OK
}

// retarget gives each link of a block the target that comes of its target.
func retarget(block *api.Block, after func(target string) string) {
	respell(block, text.Link, func(span text.Span) string {
		link, _ := text.LinkText(after(span.Text), span.Show)
		return link
	})
	for i := range block.Props {
		eachOf(api.Link, &block.Props[i].Value, func(v *api.Value) {
			v.Text = after(v.Text)
		})
	}
}

// respell writes the spans of a kind in a block's text in another way.
func respell(block *api.Block, kind int, after func(span text.Span) string) {
	var s strings.Builder
	done := 0
	for _, span := range marks(*block, kind) {
		s.WriteString(block.Text[done:span.From])
		s.WriteString(after(span))
		done = span.To
	}
	s.WriteString(block.Text[done:])
	block.Text = s.String()
}

// RenameTag gives the base in which a tag, and all below it, is another one, and below that.
func RenameTag(base []api.Block, from, to string) ([]api.Block, []int, api.Errno) {
	if bad := tree.Check(base); bad != api.OK {
		return nil, nil, bad
	}
	if !isTag(from) || !isTag(to) {
		return nil, nil, api.ErrName
	}
	if isWithin(to, from) || slices.ContainsFunc(base, func(block api.Block) bool { return hasWithin(block, to) }) {
		return nil, nil, api.ErrTwice
	}
	longest := 0
	next, ids, bad := changed(base, func(block *api.Block) {
		respell(block, text.Tag, func(span text.Span) string {
			tag := span.Text
			if isWithin(tag, from) {
				tag = to + tag[len(from):]
			}
			longest = max(longest, len(tag))
			return "#" + tag
		})
	})
	if bad == api.OK && longest > api.MaxTitle {
		return nil, nil, api.ErrLarge
	}
	return next, ids, bad
}

// Retarget gives the base in which all that leads to a page leads to another one.
func Retarget(base []api.Block, from, to int) ([]api.Block, []int, api.Errno) {
	b, bad := openAt(base, from)
	if bad != api.OK {
		return nil, nil, bad
	}
	page, found := b.pages[to]
	if !found {
		return nil, nil, api.ErrNone
	}
	if from == to {
		return nil, nil, api.ErrTwice
	}
	if !isTarget(page.Text) || b.leadsTo(page.Text) != to {
		return nil, nil, api.ErrName
	}
	return changed(base, func(block *api.Block) {
		retarget(block, func(target string) string {
			if b.leadsTo(target) == from {
				return page.Text
			}
			return target
		})
	})
}
