package link_test

import (
	"strconv"
	"strings"
	"testing"

	"florilegium/api"
	"florilegium/link"
)

// P4.6

// net gives a base of pages, whose titles are their ids with a p before them, and below each one a block with its
// links; an item `4: 2 3` is the page 4 that leads to 2 and 3. The ids of the blocks are those of the pages and 1000.
func net(items ...string) []api.Block {
	var lines []string
	for _, item := range items {
		id, to, _ := strings.Cut(item, ":")
		lines = append(lines, id+" p"+id)
		number, _ := strconv.Atoi(id)
		texts := ""
		for _, page := range strings.Fields(to) {
			texts += "[[p" + page + "]] "
		}
		lines = append(lines, "  "+strconv.Itoa(number+1000)+" "+texts)
	}
	return base(lines...)
}

func TestGraph(t *testing.T) {
	got, bad := link.Graph(zoo())
	want(t, "zoo", got, []link.Edge{{6, 2, 1}, {9, 2, 3}, {9, 3, 1}}, bad, api.OK)
	got, bad = link.Graph(example())
	want(t, "example", got, []link.Edge{{1, 3, 1}}, bad, api.OK)
	got, bad = link.Graph([]api.Block{{}})
	want(t, "root alone", got, nil, bad, api.OK)
	got, bad = link.Graph(base("10 a ; l:: [[b]]", "  1 [[a]] [[b]] [[x]]", "    2 [[c]] [[B]]", "9 b", "  3 [[b]]", "5 c", "  11 [[A]] ; m:: [[[a]], [[b]]]"))
	want(t, "counts", got, []link.Edge{{5, 9, 1}, {5, 10, 2}, {10, 5, 1}, {10, 9, 3}}, bad, api.OK)
	got, bad = link.Graph(net("100: 20 3", "20: 100", "3: 20 100"))
	want(t, "by numbers", got, []link.Edge{{3, 20, 1}, {3, 100, 1}, {20, 100, 1}, {100, 3, 1}, {100, 20, 1}}, bad, api.OK)
}

func TestWay(t *testing.T) {
	l := net("1: 2 30 4", "2: 5", "30: 5", "4: 5 6", "5: 7 1", "6: 7", "7:", "8: 8")
	for _, c := range []struct {
		from, to int
		want     []int
	}{
		{1, 1, []int{1}},
		{8, 8, []int{8}},
		{1, 2, []int{1, 2}},
		{1, 5, []int{1, 2, 5}},
		{1, 7, []int{1, 2, 5, 7}},
		{4, 7, []int{4, 5, 7}},
		{4, 2, []int{4, 5, 1, 2}},
		{5, 6, []int{5, 1, 4, 6}},
		{30, 6, []int{30, 5, 1, 4, 6}},
		{7, 1, nil},
		{7, 7, []int{7}},
		{1, 8, nil},
		{8, 1, nil},
	} {
		got, bad := link.Way(l, c.from, c.to)
		wanted := api.OK
		if c.want == nil {
			wanted = api.ErrNone
		}
		want(t, strconv.Itoa(c.from)+" "+strconv.Itoa(c.to), got, c.want, bad, wanted)
	}
	for _, pages := range [][2]int{{0, 1}, {1, 0}, {0, 0}, {1, 9}, {9, 1}, {9, 9}, {1, 1002}, {1002, 1}, {1002, 1002}, {-1, 1}, {1, api.MaxId + 1}} {
		got, bad := link.Way(l, pages[0], pages[1])
		want(t, "no page", got, nil, bad, api.ErrNone)
	}
}

// The least list begins with the least page from which it goes on, though a lesser one is next to the first page.
func TestWayIsLeast(t *testing.T) {
	l := net("50: 1 3 4 2", "1:", "3: 9 8", "4: 5", "2: 60", "5: 40", "8: 40", "9: 40", "60: 50", "40:")
	got, bad := link.Way(l, 50, 40)
	want(t, "least", got, []int{50, 3, 8, 40}, bad, api.OK)
	var items []string
	var pages []int
	for page := 1; page <= 480; page++ {
		items = append(items, strconv.Itoa(page)+": "+strconv.Itoa(page+1)+" "+strconv.Itoa(page/2))
		pages = append(pages, page)
	}
	got, bad = link.Way(net(items...), 1, 480)
	want(t, "long", got, pages, bad, api.OK)
}

func TestGroups(t *testing.T) {
	got, bad := link.Groups(zoo())
	want(t, "zoo", got, []int{2, 2, 5, 2, 2}, bad, api.OK)
	got, bad = link.Groups([]api.Block{{}})
	want(t, "root alone", got, nil, bad, api.OK)
	got, bad = link.Groups(net("9: 9", "7: 6", "3: 5", "5: 4", "6:", "4:", "2: 7 2", "8: 1000"))
	want(t, "several", got, []int{9, 2, 3, 3, 2, 3, 2, 8}, bad, api.OK)
	got, bad = link.Groups(net("2: 3", "4: 3", "4000: 4 1", "3:", "1: 2"))
	want(t, "one", got, []int{1, 1, 1, 1, 1}, bad, api.OK)
}

func TestOrphans(t *testing.T) {
	got, bad := link.Orphans(zoo())
	want(t, "zoo", got, []int{5}, bad, api.OK)
	got, bad = link.Orphans([]api.Block{{}})
	want(t, "root alone", got, nil, bad, api.OK)
	got, bad = link.Orphans(net("9: 9", "70: 6", "3:", "6:", "4: 1000", "1: 2", "2:"))
	want(t, "several", got, []int{3, 4, 9}, bad, api.OK)
	got, bad = link.Orphans(net("1: 2", "2:"))
	want(t, "none", got, nil, bad, api.OK)
}
