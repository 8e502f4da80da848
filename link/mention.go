package link

import (
	"slices"
	"strings"

	"florilegium/api"
	"florilegium/text"
	"florilegium/tree"
)

// Mentions gives the names of a page in texts that are no links.
func Mentions(base []api.Block, page int) ([]Mention, api.Errno) {
	b, bad := openAt(base, page)
	if bad != api.OK {
		return nil, bad
	}
	var mentions []Mention
	names, homes := b.sought(page), b.homes()
	for _, block := range base {
		if homes[block.Id] == page {
			continue
		}
		eachNamed(marked(block), names, func(from, to int) {
			mentions = append(mentions, Mention{Page: page, Block: block.Id, From: from, To: to})
		})
	}
	return mentions, api.OK
}

// sought gives the folded names of a page that a text can mention, longest ones first.
func (b book) sought(page int) []string {
	var names []string
	for _, name := range namesOf(b.pages[page]) {
		folded := FoldTitle(name)
		if len(folded) >= 2 && isTarget(folded) && b.leadsTo(folded) == page {
			names = append(names, folded)
		}
	}
	slices.SortStableFunc(names, func(a, b string) int { return len(b) - len(a) })
	return names
}

// isTarget asks whether a link in a text can have a target.
func isTarget(s string) bool {
	_, bad := text.LinkText(s, "")
	return bad == api.OK
}

// eachNamed calls visit with each part of a text that is one of some folded names.
// The longest ones must be the first.
func eachNamed(s string, names []string, visit func(from, to int)) {
	small := lower(s)
	for _, span := range text.Spans(s) {
		if span.Kind != text.Plain {
			continue
		}
		for at := span.From; at < span.To; {
			to := namedTo(small, at, span.To, names)
			if to > at {
				visit(at, to)
			}
			at = max(at+1, to)
		}
	}
}

// namedTo gives the end of the first one of names that stands at a position, and
// ends at most there where its span ends. It gives 0, if none does.
func namedTo(small string, at, end int, names []string) int {
	if at > 0 && (isWordByte(small[at-1]) || small[at-1] == '\\') {
		return 0
	}
	for _, name := range names {
		to := at + len(name)
		if strings.HasPrefix(small[at:end], name) && (to == len(small) || !isWordByte(small[to])) {
			return to
		}
	}
	return 0
}

// isWordByte asks whether a byte of a small string is a letter or a digit.
func isWordByte(c byte) bool {
	return 'a' <= c && c <= 'z' || c >= 128 || '0' <= c && c <= '9'
}

// LinkUp gives the text in which a mention has become a link.
func LinkUp(base []api.Block, m Mention) (string, api.Errno) {
	mentions, bad := Mentions(base, m.Page)
	if bad != api.OK {
		return "", bad
	}
	if !slices.Contains(mentions, m) {
		return "", api.ErrNone
	}
	block, _ := tree.Get(base, m.Block)
	s := block.Text
	if len(s)+len("[[]]") > api.MaxString {
		return "", api.ErrLarge
	}
	return s[:m.From] + "[[" + s[m.From:m.To] + "]]" + s[m.To:], api.OK
}
