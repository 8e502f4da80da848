package link

import (
	"cmp"
	"slices"

	"florilegium/api"
	"florilegium/prop"
	"florilegium/text"
	"florilegium/tree"
)

// A book is a right base, of which it is known what leads to which page.
type book struct {
	base            []api.Block
	pages           map[int]api.Block
	titles, aliases map[string]int // folded; of the pages that have one the one with the least id
}

// open gives the book of a base, if the base may be.
func open(base []api.Block) (book, api.Errno) {
	if bad := tree.Check(base); bad != api.OK {
		return book{}, bad
	}
	b := book{base: base, pages: map[int]api.Block{}, titles: map[string]int{}, aliases: map[string]int{}}
	for _, block := range base {
		if !isPage(block) {
			continue
		}
		b.pages[block.Id] = block
		leadTo(b.titles, block.Text, block.Id)
		for _, alias := range aliasesOf(block) {
			leadTo(b.aliases, alias, block.Id)
		}
	}
	return b, api.OK
}

// leadTo lets a name lead to a page, if it leads to none before it.
func leadTo(names map[string]int, name string, page int) {
	folded := FoldTitle(name)
	if names[folded] == 0 {
		names[folded] = page
	}
}

// openAt is open for a function that needs a certain page.
func openAt(base []api.Block, page int) (book, api.Errno) {
	b, bad := open(base)
	if bad != api.OK {
		return book{}, bad
	}
	if _, ok := b.pages[page]; !ok {
		return book{}, api.ErrNone
	}
	return b, api.OK
}

// isPage asks whether a block of a right base is a page.
func isPage(block api.Block) bool {
	return block.Id != 0 && block.Parent == 0
}

// leadsTo gives the page to which a title leads, 0 if to none.
func (b book) leadsTo(title string) int {
	folded := FoldTitle(title)
	if page, ok := b.titles[folded]; ok {
		return page
	}
	return b.aliases[folded]
}

// homes gives for each block but the root the page in which it is.
func (b book) homes() map[int]int {
	parents := make(map[int]int, len(b.base))
	for _, block := range b.base {
		parents[block.Id] = block.Parent
	}
	homes := make(map[int]int, len(b.base))
	for _, id := range tree.Order(b.base) {
		homes[id] = id
		if parents[id] != 0 {
			homes[id] = homes[parents[id]]
		}
	}
	return homes
}

// marked gives the text of a block in which marks count. They do not in a title.
func marked(block api.Block) string {
	if isPage(block) {
		return ""
	}
	return block.Text
}

// once gives what is in a list, in order, each once. It takes the list's memory for that.
func once[T cmp.Ordered](l []T) []T {
	slices.Sort(l)
	return slices.Compact(l)
}

// marks gives the spans of a kind in a block's text.
func marks(block api.Block, kind int) []text.Span {
	var found []text.Span
	for _, span := range text.Spans(marked(block)) {
		if span.Kind == kind {
			found = append(found, span)
		}
	}
	return found
}

// eachOf calls visit with a value, if it is of a kind, or with those among its Items that are.
func eachOf(kind int, v *api.Value, visit func(v *api.Value)) {
	if v.Kind == kind {
		visit(v)
	}
	for i := range v.Items {
		if v.Items[i].Kind == kind {
			visit(&v.Items[i])
		}
	}
}

// aliasesOf gives what the property alias of a page has for names.
func aliasesOf(page api.Block) []string {
	var aliases []string
	v, _ := prop.Get(page.Props, "alias")
	eachOf(api.String, &v, func(v *api.Value) {
		aliases = append(aliases, v.Text)
	})
	return aliases
}
