package link

import (
	"cmp"
	"slices"

	"florilegium/api"
)

// Ranks gives a number for each page, the greater, the more the pages have that lead to it.
func Ranks(base []api.Block, rounds int) ([]int, api.Errno) {
	b, bad := open(base)
	if bad != api.OK {
		return nil, bad
	}
	if rounds < 0 || rounds > MaxRounds {
		return nil, api.ErrRange
	}
	numbers := make(map[int]int64, len(b.pages))
	for page := range b.pages {
		numbers[page] = 1_000_000
	}
	edges := b.edges()
	for range rounds {
		numbers = b.round(edges, numbers)
	}
	ranks := make([]int, len(b.pages))
	for i, page := range base[0].Kids {
		ranks[i] = int(numbers[page])
	}
	return ranks, api.OK
}

// round gives the numbers of the pages after a round. All of them together are at most
// a million for each page, so that no product comes near the greatest number.
func (b book) round(edges []Edge, before map[int]int64) map[int]int64 {
	sums := map[int]int64{}
	for _, e := range edges {
		sums[e.From] += int64(e.Count)
	}
	numbers := make(map[int]int64, len(b.pages))
	for page := range b.pages {
		numbers[page] = 150_000
	}
	for _, e := range edges {
		numbers[e.To] += 850 * before[e.From] * int64(e.Count) / (1000 * sums[e.From])
	}
	return numbers
}

// Near gives the pages that have most in common with a page.
func Near(base []api.Block, page, most int) ([]Hit, api.Errno) {
	b, bad := openAt(base, page)
	if bad != api.OK {
		return nil, bad
	}
	if most < 0 || most > MaxHits {
		return nil, api.ErrRange
	}
	scores := b.sharedTags(page)
	joined := sides(b.edges())
	for beside := range joined[page] {
		scores[beside] += 3
		for other := range joined[beside] {
			scores[other] += 2
		}
	}
	delete(scores, page)
	var hits []Hit
	for other, score := range scores {
		hits = append(hits, Hit{Page: other, Score: score})
	}
	slices.SortFunc(hits, func(a, b Hit) int {
		return cmp.Or(cmp.Compare(b.Score, a.Score), cmp.Compare(a.Page, b.Page))
	})
	return slices.Clip(hits[:min(most, len(hits))]), api.OK
}

// sharedTags gives for pages how many tags their blocks share with those of a page.
func (b book) sharedTags(page int) map[int]int {
	homes := b.homes()
	tags := map[int][]string{}
	for _, block := range b.base {
		home := homes[block.Id]
		tags[home] = append(tags[home], tagsOf(block)...)
	}
	own := map[string]bool{}
	for _, tag := range tags[page] {
		own[tag] = true
	}
	shared := map[int]int{}
	for other := range b.pages {
		for _, tag := range once(tags[other]) {
			if own[tag] {
				shared[other]++
			}
		}
	}
	return shared
}
