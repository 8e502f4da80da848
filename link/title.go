package link

import (
	"slices"
	"strings"

	"florilegium/api"
)

// FoldTitle gives what two titles have in common that lead to the same page.
func FoldTitle(s string) string {
	small := lower(s)
	folded := make([]byte, 0, len(small))
	for i := range len(small) {
		if small[i] != ' ' || i > 0 && small[i-1] != ' ' {
			folded = append(folded, small[i])
		}
	}
	return strings.TrimSuffix(string(folded), " ")
}

// lower gives a string with the letters A to Z as small ones. All other bytes stay,
// also those that are no runes, so it is as long as it was.
func lower(s string) string {
	small := []byte(s)
	for i, c := range small {
		if 'A' <= c && c <= 'Z' {
			small[i] = c - 'A' + 'a'
		}
	}
	return string(small)
}

// Page gives the page to which a title leads.
func Page(base []api.Block, title string) (int, api.Errno) {
	b, bad := open(base)
	if bad != api.OK {
		return 0, bad
	}
	page := b.leadsTo(title)
	if page == 0 {
		return 0, api.ErrNone
	}
	return page, api.OK
}

// Names gives the title of a page, and its aliases.
func Names(base []api.Block, page int) ([]string, api.Errno) {
	b, bad := openAt(base, page)
	if bad != api.OK {
		return nil, bad
	}
	return namesOf(b.pages[page]), api.OK
}

func namesOf(page api.Block) []string {
	var names, seen []string
	for _, name := range append([]string{page.Text}, aliasesOf(page)...) {
		if folded := FoldTitle(name); !slices.Contains(seen, folded) {
			seen = append(seen, folded)
			names = append(names, name)
		}
	}
	return names
}
