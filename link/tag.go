package link

import (
	"maps"
	"slices"
	"strings"

	"florilegium/api"
	"florilegium/text"
	"florilegium/tree"
)

// tagsOf gives the tags of a block, by bytes, each once.
func tagsOf(block api.Block) []string {
	return once(text.Tags(marked(block)))
}

// isTag asks whether a span could have a tag.
func isTag(s string) bool {
	spans := text.Spans("#" + s)
	return spans[0].Kind == text.Tag && spans[0].Text == s
}

// isWithin asks whether a tag is another one, or below it.
func isWithin(tag, other string) bool {
	return tag == other || strings.HasPrefix(tag, other+"/")
}

// Tags gives all tags, and their beginnings.
func Tags(base []api.Block) ([]Tag, api.Errno) {
	if bad := tree.Check(base); bad != api.OK {
		return nil, bad
	}
	own, all := map[string]int{}, map[string]int{}
	for _, block := range base {
		names := tagsOf(block)
		for _, name := range names {
			own[name]++
		}
		for _, name := range withBeginnings(names) {
			all[name]++
		}
	}
	var tags []Tag
	for _, name := range slices.Sorted(maps.Keys(all)) {
		tags = append(tags, Tag{Name: name, Own: own[name], All: all[name]})
	}
	return tags, api.OK
}

// withBeginnings gives tags, and the beginnings of them that end before a /, each once.
func withBeginnings(tags []string) []string {
	all := slices.Clone(tags)
	for _, tag := range tags {
		for i := range len(tag) {
			if tag[i] == '/' {
				all = append(all, tag[:i])
			}
		}
	}
	return once(all)
}

// Tagged gives the blocks that have a tag or one below it.
func Tagged(base []api.Block, tag string) ([]int, api.Errno) {
	if bad := tree.Check(base); bad != api.OK {
		return nil, bad
	}
	if !isTag(tag) {
		return nil, api.ErrName
	}
	var ids []int
	for _, block := range base {
		if hasWithin(block, tag) {
			ids = append(ids, block.Id)
		}
	}
	return ids, api.OK
}

// hasWithin asks whether a block has a tag or one below it.
func hasWithin(block api.Block, tag string) bool {
	return slices.ContainsFunc(text.Tags(marked(block)), func(s string) bool { return isWithin(s, tag) })
}
