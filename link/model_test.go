package link_test

import (
	"cmp"
	"math/big"
	"regexp"
	"slices"
	"strings"
	"testing"

	"florilegium/api"
	"florilegium/link"
	"florilegium/prop"
	"florilegium/text"
	"florilegium/tree"
)

// The tests of this file hold the package against a slow model on many generated bases.

var manySpaces, capital = regexp.MustCompile(" +"), regexp.MustCompile("[A-Z]")

func modelFold(s string) string {
	s = manySpaces.ReplaceAllString(s, " ")
	s = strings.TrimPrefix(strings.TrimSuffix(s, " "), " ")
	return capital.ReplaceAllStringFunc(s, func(c string) string { return string(rune(c[0] | 32)) })
}

// get gives a block that there is.
func get(l []api.Block, id int) api.Block {
	b, ok := tree.Get(l, id)
	if !ok {
		panic(id)
	}
	return b
}

func modelAliases(l []api.Block, page int) []string {
	var aliases []string
	v, _ := prop.Get(get(l, page).Props, "alias")
	for _, item := range append([]api.Value{v}, v.Items...) {
		if item.Kind == api.String {
			aliases = append(aliases, item.Text)
		}
	}
	return aliases
}

func modelNames(l []api.Block, page int) []string {
	names := []string{get(l, page).Text}
	for _, alias := range modelAliases(l, page) {
		if !slices.ContainsFunc(names, func(s string) bool { return modelFold(s) == modelFold(alias) }) {
			names = append(names, alias)
		}
	}
	return names
}

// modelPage gives the page to which a title leads, 0: none.
func modelPage(l []api.Block, title string) int {
	pages := tree.Pages(l)
	slices.Sort(pages)
	for _, page := range pages {
		if modelFold(get(l, page).Text) == modelFold(title) {
			return page
		}
	}
	for _, page := range pages {
		for _, alias := range modelAliases(l, page) {
			if modelFold(alias) == modelFold(title) {
				return page
			}
		}
	}
	return 0
}

// inner gives the blocks that are neither the root nor pages, by their ids.
func inner(l []api.Block) []api.Block {
	return slices.DeleteFunc(slices.Clone(l), func(b api.Block) bool { return b.Id == 0 || slices.Contains(tree.Pages(l), b.Id) })
}

func modelLinks(l []api.Block) []link.Link {
	var links []link.Link
	for _, b := range l[1:] {
		if !slices.Contains(tree.Pages(l), b.Id) {
			for _, s := range text.Spans(b.Text) {
				if s.Kind == text.Link {
					links = append(links, link.Link{b.Id, s.From, s.To, "", s.Text, modelPage(l, s.Text)})
				}
			}
		}
		for _, p := range b.Props {
			for _, v := range append([]api.Value{p.Value}, p.Value.Items...) {
				if v.Kind == api.Link {
					links = append(links, link.Link{b.Id, 0, 0, p.Name, v.Text, modelPage(l, v.Text)})
				}
			}
		}
	}
	return links
}

func keep[T any](l []T, wanted func(T) bool) []T {
	return slices.DeleteFunc(slices.Clone(l), func(v T) bool { return !wanted(v) })
}

func TestLinksAgainstModel(t *testing.T) {
	var d dice
	found := 0
	for range 2000 {
		l := d.base(14)
		links := modelLinks(l)
		got, bad := link.Links(l)
		want(t, "Links", got, links, bad, api.OK)
		found += len(links)
		for _, page := range tree.Pages(l) {
			got, bad := link.Back(l, page)
			want(t, "Back", got, keep(links, func(k link.Link) bool { return k.Page == page }), bad, api.OK)
			names, bad := link.Names(l, page)
			want(t, "Names", names, modelNames(l, page), bad, api.OK)
		}
		var pairs []link.Pair
		for id := range 31 {
			var blocks []int
			for _, b := range inner(l) {
				if slices.Contains(text.Refs(b.Text), id) {
					blocks = append(blocks, b.Id)
				}
			}
			if _, ok := tree.Get(l, id); ok {
				got, bad := link.Refs(l, id)
				want(t, "Refs", got, blocks, bad, api.OK)
				continue
			}
			for _, block := range blocks {
				pairs = append(pairs, link.Pair{block, id})
			}
		}
		for _, b := range inner(l) {
			if slices.Contains(text.Refs(b.Text), api.MaxId) {
				pairs = append(pairs, link.Pair{b.Id, api.MaxId})
			}
		}
		slices.SortStableFunc(pairs, func(a, b link.Pair) int { return a.Block - b.Block })
		got, gotPairs, bad := link.Broken(l)
		want(t, "Broken", got, keep(links, func(k link.Link) bool { return k.Page == 0 }), bad, api.OK)
		want(t, "Broken", gotPairs, pairs, bad, api.OK)
		title := d.title()
		page, bad := link.Page(l, title)
		want(t, "Page", page, modelPage(l, title), 0, 0)
		if (bad == api.OK) != (page != 0) {
			t.Error(title, page, bad)
		}
		if s := d.text(); link.FoldTitle(s) != modelFold(s) {
			t.Error(s)
		}
	}
	if found < 5000 {
		t.Error(found)
	}
}

// word asks whether a letter or a digit stands at a position.
func word(s string, at int) bool {
	return at >= 0 && at < len(s) && (s[at] >= 128 || regexp.MustCompile("[0-9a-zA-Z]").MatchString(s[at:at+1]))
}

// modelMentions looks at all parts of all texts.
func modelMentions(l []api.Block, page int) []link.Mention {
	var names []string
	for _, name := range modelNames(l, page) {
		name = modelFold(name)
		if _, bad := text.LinkText(name, ""); bad == api.OK && len(name) > 1 && modelPage(l, name) == page {
			names = append(names, name)
		}
	}
	var mentions []link.Mention
	for _, b := range inner(l) {
		if slices.Contains(must(tree.Below(l, page)), b.Id) {
			continue
		}
		s, done := b.Text, 0
		for from := range s {
			for to := len(s); to > from; to-- {
				isName := slices.Contains(names, capital.ReplaceAllStringFunc(s[from:to], strings.ToLower))
				free := !word(s, from-1) && !word(s, to) && (from == 0 || s[from-1] != '\\')
				plain := slices.ContainsFunc(text.Spans(s), func(span text.Span) bool {
					return span.Kind == text.Plain && span.From <= from && to <= span.To
				})
				if from >= done && isName && free && plain {
					mentions = append(mentions, link.Mention{page, b.Id, from, to})
					done = to
				}
			}
		}
	}
	return mentions
}

func TestMentionsAgainstModel(t *testing.T) {
	var d dice
	found := 0
	for range 400 {
		l := d.base(12)
		for _, page := range tree.Pages(l) {
			mentions := modelMentions(l, page)
			got, bad := link.Mentions(l, page)
			want(t, "Mentions", got, mentions, bad, api.OK)
			found += len(mentions)
			for _, m := range mentions {
				s := get(l, m.Block).Text
				got, bad := link.LinkUp(l, m)
				want(t, "LinkUp", got, s[:m.From]+"[["+s[m.From:m.To]+"]]"+s[m.To:], bad, api.OK)
				m.To++
				_, bad = link.LinkUp(l, m)
				want(t, "LinkUp", slices.Contains(mentions, m), bad == api.OK, 0, 0)
			}
		}
	}
	if found < 100 {
		t.Error(found)
	}
}

// carriers gives the blocks with a tag, or, with more, with one below it.
func carriers(l []api.Block, tag string, more bool) []int {
	var ids []int
	for _, b := range inner(l) {
		if slices.ContainsFunc(text.Tags(b.Text), func(s string) bool { return s == tag || more && strings.HasPrefix(s, tag+"/") }) {
			ids = append(ids, b.Id)
		}
	}
	return ids
}

func TestTagsAgainstModel(t *testing.T) {
	var d dice
	found := 0
	for range 2000 {
		l := d.base(10)
		var names []string
		for _, b := range inner(l) {
			for _, tag := range text.Tags(b.Text) {
				parts := strings.Split(tag, "/")
				for i := range parts {
					names = append(names, strings.Join(parts[:i+1], "/"))
				}
			}
		}
		slices.Sort(names)
		var tags []link.Tag
		for _, name := range slices.Compact(names) {
			tags = append(tags, link.Tag{name, len(carriers(l, name, false)), len(carriers(l, name, true))})
			found++
		}
		got, bad := link.Tags(l)
		want(t, "Tags", got, tags, bad, api.OK)
		for _, name := range []string{"t", "t/u", "t/u/v", "u", "t_", "none"} {
			got, bad := link.Tagged(l, name)
			want(t, "Tagged", got, carriers(l, name, true), bad, api.OK)
		}
	}
	if found < 1000 {
		t.Error(found)
	}
}

// modelRetarget gives the base in which those links that are wanted have another target, one after the other.
func modelRetarget(l []api.Block, title string, wanted func(target string) bool) []api.Block {
	l = plain(l)
	for i := range l {
		if l[i].Parent != 0 {
			for number, target := range text.Links(l[i].Text) {
				if wanted(target) {
					l[i].Text = must(text.Retarget(l[i].Text, number, title))
				}
			}
		}
		for k, p := range l[i].Props {
			if p.Value.Kind == api.Link && wanted(p.Value.Text) {
				l[i].Props[k].Value.Text = title
			}
			for n, item := range p.Value.Items {
				if item.Kind == api.Link && wanted(item.Text) {
					p.Value.Items[n].Text = title
				}
			}
		}
	}
	return l
}

// differing gives the blocks in which two bases differ.
func differing(a, b []api.Block) []int {
	var ids []int
	for i := range a {
		if !tree.Same(a[i:i+1], b[i:i+1]) {
			ids = append(ids, a[i].Id)
		}
	}
	return ids
}

func TestRenameAgainstModel(t *testing.T) {
	var d dice
	counts := map[api.Errno]int{}
	for range 3000 {
		l := d.base(10)
		if len(l) == 1 {
			continue
		}
		page, title := one(&d, tree.Pages(l)...), one(&d, d.title(), "new", "New One", "none", "dog house")
		wanted := api.OK
		for _, k := range modelLinks(l) {
			if modelFold(k.Title) == modelFold(title) && k.Page != page {
				wanted = api.ErrTwice
			}
		}
		for _, other := range tree.Pages(l) {
			names := modelAliases(l, other)
			if other != page {
				names = append(names, get(l, other).Text)
			}
			if slices.ContainsFunc(names, func(s string) bool { return modelFold(s) == modelFold(title) }) {
				wanted = api.ErrTwice
			}
		}
		if len(text.Links("[["+title+"]]")) != 1 || text.Links("[[" + title + "]]")[0] != title {
			wanted = api.ErrName
		}
		var next []api.Block
		var ids []int
		if wanted == api.OK {
			next = with(modelRetarget(l, title, func(target string) bool {
				return modelPage(l, target) == page && modelFold(target) == modelFold(get(l, page).Text)
			}), page, title)
			ids = differing(l, next)
		}
		got, gotIds, bad := link.Rename(l, page, title)
		want(t, "Rename", got, next, bad, wanted)
		want(t, "Rename", gotIds, ids, bad, wanted)
		counts[bad]++
	}
	if counts[api.OK] < 500 || counts[api.ErrName] < 50 || counts[api.ErrTwice] < 200 {
		t.Error(counts)
	}
}

func TestRetargetAgainstModel(t *testing.T) {
	var d dice
	counts := map[api.Errno]int{}
	for range 3000 {
		l := d.base(10)
		if len(l) == 1 {
			continue
		}
		from, to := one(&d, tree.Pages(l)...), one(&d, tree.Pages(l)...)
		title := get(l, to).Text
		wanted := api.OK
		var next []api.Block
		var ids []int
		if from == to {
			wanted = api.ErrTwice
		} else if links := text.Links("[[" + title + "]]"); len(links) != 1 || links[0] != title || modelPage(l, title) != to {
			wanted = api.ErrName
		} else {
			next = modelRetarget(l, title, func(target string) bool { return modelPage(l, target) == from })
			ids = differing(l, next)
		}
		got, gotIds, bad := link.Retarget(l, from, to)
		want(t, "Retarget", got, next, bad, wanted)
		want(t, "Retarget", gotIds, ids, bad, wanted)
		counts[bad]++
	}
	if len(counts) != 3 || counts[api.OK] < 500 {
		t.Error(counts)
	}
}

func TestRenameTagAgainstModel(t *testing.T) {
	var d dice
	counts := map[api.Errno]int{}
	for range 3000 {
		l := d.base(10)
		from, to := one(&d, "t", "t/u", "u", "t/u/v"), one(&d, "x", "t", "t/u", "u", "x/t", "t//u/z")
		wanted := api.OK
		if from == to || strings.HasPrefix(to, from+"/") || len(carriers(l, to, true)) > 0 {
			wanted = api.ErrTwice
		}
		next := plain(l)
		for i, b := range l {
			if b.Parent == 0 {
				continue
			}
			spans := text.Spans(b.Text)
			for _, span := range slices.Backward(spans) {
				if span.Kind == text.Tag && (span.Text == from || strings.HasPrefix(span.Text, from+"/")) {
					next[i].Text = next[i].Text[:span.From+1] + to + next[i].Text[span.From+1+len(from):]
				}
			}
		}
		ids := differing(l, next)
		if wanted != api.OK {
			next, ids = nil, nil
		}
		got, gotIds, bad := link.RenameTag(l, from, to)
		want(t, "RenameTag", got, next, bad, wanted)
		want(t, "RenameTag", gotIds, ids, bad, wanted)
		counts[bad]++
	}
	if counts[api.OK] < 500 || counts[api.ErrTwice] < 500 {
		t.Error(counts)
	}
}

func modelGraph(l []api.Block) []link.Edge {
	var edges []link.Edge
	pages := tree.Pages(l)
	slices.Sort(pages)
	links := modelLinks(l)
	for _, from := range pages {
		for _, to := range pages {
			between := keep(links, func(k link.Link) bool { return must(tree.PageOf(l, k.Block)) == from && k.Page == to })
			if from != to && len(between) > 0 {
				edges = append(edges, link.Edge{from, to, len(between)})
			}
		}
	}
	return edges
}

// modelWays gives all ways of edges on which no page is twice.
func modelWays(edges []link.Edge, way []int) [][]int {
	ways := [][]int{way}
	for _, e := range edges {
		if e.From == way[len(way)-1] && !slices.Contains(way, e.To) {
			ways = append(ways, modelWays(edges, append(slices.Clone(way), e.To))...)
		}
	}
	return ways
}

func TestWaysAgainstModel(t *testing.T) {
	var d dice
	longest, none := 0, 0
	for range 600 {
		l := d.base(16)
		edges := modelGraph(l)
		got, bad := link.Graph(l)
		want(t, "Graph", got, edges, bad, api.OK)
		for _, a := range tree.Pages(l) {
			ways := modelWays(edges, []int{a})
			for _, b := range tree.Pages(l) {
				there := keep(ways, func(way []int) bool { return way[len(way)-1] == b })
				got, bad := link.Way(l, a, b)
				if len(there) == 0 {
					want(t, "Way", got, nil, bad, api.ErrNone)
					none++
					continue
				}
				best := slices.MinFunc(there, func(a, b []int) int { return cmp.Or(len(a)-len(b), slices.Compare(a, b)) })
				want(t, "Way", got, best, bad, api.OK)
				longest = max(longest, len(best))
			}
		}
	}
	if longest < 4 || none < 100 {
		t.Error(longest, none)
	}
}

func TestGroupsAgainstModel(t *testing.T) {
	var d dice
	for range 1000 {
		l := d.base(16)
		edges := modelGraph(l)
		groups := map[int]int{}
		for _, page := range tree.Pages(l) {
			groups[page] = page
		}
		for range groups {
			for _, e := range edges {
				least := min(groups[e.From], groups[e.To])
				groups[e.From], groups[e.To] = least, least
			}
		}
		var wanted, orphans []int
		for _, page := range tree.Pages(l) {
			wanted = append(wanted, groups[page])
			if !slices.ContainsFunc(edges, func(e link.Edge) bool { return e.From == page || e.To == page }) {
				orphans = append(orphans, page)
			}
		}
		slices.Sort(orphans)
		got, bad := link.Groups(l)
		want(t, "Groups", got, wanted, bad, api.OK)
		got, bad = link.Orphans(l)
		want(t, "Orphans", got, orphans, bad, api.OK)
	}
}

// modelRound gives the numbers of the pages after a round.
func modelRound(l []api.Block, edges []link.Edge, before []int) []int {
	pages := tree.Pages(l)
	after := make([]int, len(pages))
	for i, page := range pages {
		after[i] = 150_000
		for _, e := range edges {
			if e.To != page {
				continue
			}
			sum := 0
			for _, other := range edges {
				if other.From == e.From {
					sum += other.Count
				}
			}
			part := big.NewInt(850)
			part.Mul(part, big.NewInt(int64(before[slices.Index(pages, e.From)])))
			part.Mul(part, big.NewInt(int64(e.Count)))
			part.Div(part, big.NewInt(int64(1000*sum)))
			after[i] += int(part.Int64())
		}
	}
	return after
}

func TestRanksAgainstModel(t *testing.T) {
	var d dice
	for range 300 {
		l := d.base(16)
		edges := modelGraph(l)
		numbers := slices.Repeat([]int{1_000_000}, len(l[0].Kids))
		for rounds := range 6 {
			got, bad := link.Ranks(l, rounds)
			want(t, "Ranks", got, numbers, bad, api.OK)
			numbers = modelRound(l, edges, numbers)
		}
	}
	l := crowd()
	edges := must(link.Graph(l))
	numbers := slices.Repeat([]int{1_000_000}, len(l[0].Kids))
	for range 2 {
		numbers = modelRound(l, edges, numbers)
	}
	got, bad := link.Ranks(l, 2)
	want(t, "crowd", got, numbers, bad, api.OK)
}

func modelScore(l []api.Block, edges []link.Edge, a, b int) int {
	joined := func(a, b int) bool {
		return slices.ContainsFunc(edges, func(e link.Edge) bool { return e.From == a && e.To == b || e.From == b && e.To == a })
	}
	score := 0
	if joined(a, b) {
		score += 3
	}
	for _, page := range tree.Pages(l) {
		if joined(a, page) && joined(page, b) {
			score += 2
		}
	}
	for _, tag := range must(link.Tags(l)) {
		in := func(page int) bool {
			return slices.ContainsFunc(carriers(l, tag.Name, false), func(id int) bool { return must(tree.PageOf(l, id)) == page })
		}
		if in(a) && in(b) {
			score++
		}
	}
	return score
}

func TestNearAgainstModel(t *testing.T) {
	var d dice
	found := 0
	for range 500 {
		l := d.base(14)
		edges := modelGraph(l)
		for _, page := range tree.Pages(l) {
			var hits []link.Hit
			for _, other := range tree.Pages(l) {
				if score := modelScore(l, edges, page, other); other != page && score > 0 {
					hits = append(hits, link.Hit{other, score})
				}
			}
			slices.SortFunc(hits, func(a, b link.Hit) int { return cmp.Or(b.Score-a.Score, a.Page-b.Page) })
			most := d.next(5)
			got, bad := link.Near(l, page, most)
			want(t, "Near", got, hits[:min(most, len(hits))], bad, api.OK)
			found += len(hits)
		}
	}
	if found < 500 {
		t.Error(found)
	}
}
