package link

import (
	"cmp"
	"maps"
	"slices"

	"florilegium/api"
)

// edges gives the edges between pages, by From, then To.
func (b book) edges() []Edge {
	homes := b.homes()
	counts := map[Edge]int{} // of edges without a Count
	b.eachLink(func(l Link) {
		if from := homes[l.Block]; l.Page != 0 && l.Page != from {
			counts[Edge{From: from, To: l.Page}]++
		}
	})
	var edges []Edge
	for e, count := range counts {
		e.Count = count
		edges = append(edges, e)
	}
	slices.SortFunc(edges, func(a, b Edge) int {
		return cmp.Or(cmp.Compare(a.From, b.From), cmp.Compare(a.To, b.To))
	})
	return edges
}

// Graph gives how many links there are from one page to another one.
func Graph(base []api.Block) ([]Edge, api.Errno) {
	b, bad := open(base)
	if bad != api.OK {
		return nil, bad
	}
	return b.edges(), api.OK
}

// A web has for each page those that are one step away.
type web map[int]map[int]bool

func (w web) join(from, to int) {
	if w[from] == nil {
		w[from] = map[int]bool{}
	}
	w[from][to] = true
}

// sides gives the web in which an edge is a step in both directions.
func sides(edges []Edge) web {
	w := web{}
	for _, e := range edges {
		w.join(e.From, e.To)
		w.join(e.To, e.From)
	}
	return w
}

// unseen gives the pages, from which a walk deletes those that it has seen.
func (b book) unseen() map[int]bool {
	unseen := map[int]bool{}
	for page := range b.pages {
		unseen[page] = true
	}
	return unseen
}

// walk gives for each unseen page that can be reached from one how many steps it takes,
// and deletes these pages from the unseen ones.
func (w web) walk(from int, unseen map[int]bool) map[int]int {
	steps := map[int]int{from: 0}
	delete(unseen, from)
	todo := []int{from}
	for len(todo) > 0 {
		here := todo[0]
		todo = todo[1:]
		for page := range w[here] {
			if unseen[page] {
				delete(unseen, page)
				steps[page] = steps[here] + 1
				todo = append(todo, page)
			}
		}
	}
	return steps
}

// Way gives the pages on the shortest way of edges from one page to another one.
func Way(base []api.Block, a, b int) ([]int, api.Errno) {
	notes, bad := openAt(base, a)
	if bad != api.OK {
		return nil, bad
	}
	if _, found := notes.pages[b]; !found {
		return nil, api.ErrNone
	}
	next, before := web{}, web{}
	for _, e := range notes.edges() {
		next.join(e.From, e.To)
		before.join(e.To, e.From)
	}
	// Steps are counted from the end, so that at each page of the way the least next one is known.
	steps := before.walk(b, notes.unseen())
	if _, reached := steps[a]; !reached {
		return nil, api.ErrNone
	}
	way := []int{a}
	for here := a; here != b; way = append(way, here) {
		here = next.nearer(here, steps)
	}
	return way, api.OK
}

// nearer gives the least page next to one that is a step less away.
func (w web) nearer(here int, steps map[int]int) int {
	var nearer []int
	for page := range w[here] {
		if left, reached := steps[page]; reached && left < steps[here] {
			nearer = append(nearer, page)
		}
	}
	return slices.Min(nearer)
}

// Groups gives for each page the least one to which edges lead in any direction.
func Groups(base []api.Block) ([]int, api.Errno) {
	b, bad := open(base)
	if bad != api.OK {
		return nil, bad
	}
	joined, unseen := sides(b.edges()), b.unseen()
	least := map[int]int{}
	for _, page := range slices.Sorted(maps.Keys(b.pages)) {
		if !unseen[page] {
			continue
		}
		for other := range joined.walk(page, unseen) {
			least[other] = page
		}
	}
	groups := make([]int, len(b.pages))
	for i, page := range base[0].Kids {
		groups[i] = least[page]
	}
	return groups, api.OK
}

// Orphans gives the pages without an edge.
func Orphans(base []api.Block) ([]int, api.Errno) {
	b, bad := open(base)
	if bad != api.OK {
		return nil, bad
	}
	orphans := b.unseen()
	for _, e := range b.edges() {
		delete(orphans, e.From)
		delete(orphans, e.To)
	}
	return slices.Sorted(maps.Keys(orphans)), api.OK
}
