package link_test

import (
	"testing"

	"florilegium/api"
	"florilegium/link"
)

// P4.2

// zooLinks are all links of zoo.
func zooLinks() []link.Link {
	return []link.Link{
		{Block: 4, From: 0, To: 11, Title: "a dog", Page: 9},
		{Block: 6, Prop: "up", Title: "Tom", Page: 2},
		{Block: 7, Prop: "alias", Title: "nowhere"},
		{Block: 8, From: 10, To: 22, Title: "Birds"},
		{Block: 9, Prop: "alias", Title: "Cats", Page: 2},
		{Block: 12, From: 0, To: 8, Title: "Cats", Page: 2},
		{Block: 12, From: 9, To: 17, Title: "cats", Page: 2},
		{Block: 12, Prop: "see", Title: "nobody"},
		{Block: 12, Prop: "see", Title: "hound", Page: 9},
		{Block: 12, Prop: "the", Title: "OWLS", Page: 3},
	}
}

func pick(l []link.Link, numbers ...int) []link.Link {
	var picked []link.Link
	for _, i := range numbers {
		picked = append(picked, l[i])
	}
	return picked
}

func TestLinks(t *testing.T) {
	got, bad := link.Links(zoo())
	want(t, "zoo", got, zooLinks(), bad, api.OK)
	got, bad = link.Links(example())
	want(t, "example", got, []link.Link{{Block: 2, From: 4, To: 12, Title: "dogs", Page: 3}}, bad, api.OK)
	got, bad = link.Links(base("1 [[a]]", "  2 \\[[a]] `[[a]]` [[ a]] [[]] [[a|]] ((1)) #a"))
	want(t, "no links", got, nil, bad, api.OK)
	got, bad = link.Links([]api.Block{{}})
	want(t, "root alone", got, nil, bad, api.OK)
	got, bad = link.Links(base("3 A", "  1 **[[a]][[b|[x]]** [[a|`x`]] ; x:: [[y]] ; y:: [[[z]], 4, [[a\"b]]]"))
	want(t, "in order", got, []link.Link{
		{Block: 1, From: 2, To: 7, Title: "a", Page: 3},
		{Block: 1, From: 18, To: 27, Title: "a", Page: 3},
		{Block: 1, Prop: "x", Title: "y"},
		{Block: 1, Prop: "y", Title: "z"},
		{Block: 1, Prop: "y", Title: "a\"b"},
	}, bad, api.OK)
}

func TestBack(t *testing.T) {
	all := zooLinks()
	for page, wanted := range map[int][]link.Link{9: pick(all, 0, 8), 2: pick(all, 1, 4, 5, 6), 3: pick(all, 9), 5: nil, 6: nil} {
		got, bad := link.Back(zoo(), page)
		want(t, "zoo", got, wanted, bad, api.OK)
	}
	for _, page := range []int{-1, 0, 1, 4, 7, 12, 13, api.MaxId + 1} {
		got, bad := link.Back(zoo(), page)
		want(t, "no page", got, nil, bad, api.ErrNone)
	}
	got, bad := link.Back(base("1 a ; l:: [[A]]"), 1)
	want(t, "to itself", got, []link.Link{{Block: 1, Prop: "l", Title: "A", Page: 1}}, bad, api.OK)
}

func TestRefs(t *testing.T) {
	for block, wanted := range map[int][]int{0: nil, 2: nil, 4: {7, 8}, 7: {4, 7}, 12: nil} {
		got, bad := link.Refs(zoo(), block)
		want(t, "zoo", got, wanted, bad, api.OK)
	}
	for _, block := range []int{-1, 1, 98, 99, api.MaxId, api.MaxId + 1} {
		got, bad := link.Refs(zoo(), block)
		want(t, "no block", got, nil, bad, api.ErrNone)
	}
	got, bad := link.Refs(base("1 a", "  3 ((1))((1)) ((3))", "  2 ((1)) ((01))", "4 b ; r:: \"((1))\"", "  5 \\((1)) `((1))` [[x|((1))]]"), 1)
	want(t, "several", got, []int{2, 3}, bad, api.OK)
}

func TestBroken(t *testing.T) {
	links, pairs, bad := link.Broken(zoo())
	want(t, "links", links, pick(zooLinks(), 2, 3, 7), bad, api.OK)
	want(t, "pairs", pairs, []link.Pair{{Block: 12, To: 98}, {Block: 12, To: 99}}, bad, api.OK)
	links, pairs, bad = link.Broken(base("5 a", "  2 ((1)) ((5)) ((1000000)) ((6)) ((0)) ((1))", "  1 ((1000000))", "9 b", "  7 ((3)) [[c]]"))
	want(t, "links", links, []link.Link{{Block: 7, From: 6, To: 11, Title: "c"}}, bad, api.OK)
	want(t, "pairs", pairs, []link.Pair{{Block: 1, To: 1000000}, {Block: 2, To: 6}, {Block: 2, To: 1000000}, {Block: 7, To: 3}}, bad, api.OK)
	links, pairs, bad = link.Broken(example())
	want(t, "none", links, nil, bad, api.OK)
	want(t, "none", pairs, nil, bad, api.OK)
}
