package link_test

import (
	"math"
	"strconv"
	"testing"

	"florilegium/api"
	"florilegium/link"
)

// P4.7

func TestRanks(t *testing.T) {
	l := net("3: 1 1 7", "1: 3", "7: 1 3 1 3 1", "5: 5", "9: 1")
	// 3 gives 2 of 3 to 1, and 1 of 3 to 7; 7 gives 3 of 5 to 1, and 2 of 5 to 3.
	for rounds, wanted := range map[int][]int{
		0: {1_000_000, 1_000_000, 1_000_000, 1_000_000, 1_000_000},
		1: {150_000 + 850_000 + 340_000, 150_000 + 566_666 + 510_000 + 850_000, 150_000 + 283_333, 150_000, 150_000},
		2: {150_000 + 1_765_166 + 147_333, 150_000 + 759_333 + 220_999 + 127_500, 150_000 + 379_666, 150_000, 150_000},
	} {
		got, bad := link.Ranks(l, rounds)
		want(t, strconv.Itoa(rounds), got, wanted, bad, api.OK)
	}
	got, bad := link.Ranks(net("2: 1", "1: 2"), 50)
	want(t, "equal", got, []int{1_000_000, 1_000_000}, bad, api.OK)
	got, bad = link.Ranks([]api.Block{{}}, 50)
	want(t, "root alone", got, nil, bad, api.OK)
	got, bad = link.Ranks(zoo(), 1)
	want(t, "zoo", got, []int{150_000, 150_000 + 850_000 + 637_500, 150_000, 150_000, 150_000 + 212_500}, bad, api.OK)
	for _, rounds := range []int{-1, 51, math.MinInt, math.MaxInt} {
		got, bad := link.Ranks(l, rounds)
		want(t, "rounds", got, nil, bad, api.ErrRange)
	}
	_, bad = link.Ranks(l, link.MaxRounds)
	want(t, "most rounds", 0, 0, bad, api.OK)
}

// The greatest numbers: of all pages one has links to another one, as many as a base can have.
func TestRanksOfManyLinks(t *testing.T) {
	l := crowd()
	got, bad := link.Ranks(l, link.MaxRounds)
	if bad != api.OK || len(got) != 498 {
		t.Fatal(len(got), bad)
	}
	// All pages lead to 1, but 1 leads to 2, and 2 has one link to 3.
	if got[2] < 150_000 || got[0] < 50_000_000 || got[1] < 50_000_000 || got[3] != 150_000 {
		t.Error(got[:4])
	}
	sum := 0
	for _, n := range got {
		sum += n
	}
	if sum > 498*1_000_000 || sum < 497*1_000_000 { // page 3 leads to none
		t.Error(sum)
	}
}

func TestNear(t *testing.T) {
	// Of page 1: 2 and 3 have an edge with it, each with two links; 4 has one with both of these, 6 with 3 alone.
	l := net("1: 2 2 1", "3: 1 1 6 7", "2: 3", "4: 2 3 4", "6:", "5: 5", "7: 3")
	hits := []link.Hit{{2, 5}, {3, 5}, {4, 4}, {6, 2}, {7, 2}}
	for most := range 8 {
		got, bad := link.Near(l, 1, most)
		want(t, strconv.Itoa(most), got, hits[:min(most, len(hits))], bad, api.OK)
	}
	got, bad := link.Near(l, 5, 200)
	want(t, "alone", got, nil, bad, api.OK)
	got, bad = link.Near(zoo(), 2, 200)
	want(t, "zoo", got, []link.Hit{{6, 3}, {9, 3}, {3, 2}}, bad, api.OK)
}

func TestNearByTags(t *testing.T) {
	l := base(
		"1 #title",
		"  11 #a #b/c #a",
		"    12 #a #d [[B]]",
		"2 b",
		"  21 #a #b #title",
		"  22 #a",
		"30 c",
		"  31 #b/c/d #b/c #d #A #b/c",
		"  32 #a",
		"4 d",
		"  41 #b #title",
		"5 e #a",
		"6 f",
		"  61 #d",
	)
	got, bad := link.Near(l, 1, 9)
	want(t, "tags", got, []link.Hit{{2, 4}, {30, 3}, {6, 1}}, bad, api.OK)
	got, bad = link.Near(l, 4, 9)
	want(t, "tags", got, []link.Hit{{2, 2}}, bad, api.OK)
	got, bad = link.Near(l, 5, 9)
	want(t, "a title has none", got, nil, bad, api.OK)
}

func TestNearErrors(t *testing.T) {
	for _, most := range []int{-1, 201, math.MinInt, math.MaxInt} {
		got, bad := link.Near(zoo(), 2, most)
		want(t, "most", got, nil, bad, api.ErrRange)
		got, bad = link.Near(zoo(), 1, most)
		want(t, "no page", got, nil, bad, api.ErrNone)
	}
	for _, page := range []int{-1, 0, 1, 4, 12, api.MaxId + 1} {
		got, bad := link.Near(zoo(), page, 5)
		want(t, "no page", got, nil, bad, api.ErrNone)
	}
	_, bad := link.Near(zoo(), 2, link.MaxHits)
	want(t, "most", 0, 0, bad, api.OK)
}
