package ask_test

import (
	"fmt"
	"slices"
	"strconv"
	"strings"
	"testing"
	"time"

	"florilegium/api"
	"florilegium/ask"
	"florilegium/tree"
)

// P5.3

// zoo is a base whose ids are not in its order, with marks in titles, and values of several kinds.
func zoo() []api.Block {
	return base(
		"9 Big  Dogs ; n:: 5 ; s:: \"b\"",
		"  4 a **bo**ld \\#no [[big dogs|Shown]] #Pet/Dog ; n:: -3",
		"    12 `code` [[ Cats]] ((4)) #pet_ ; d:: 2024-03-06 ; n:: \"5\"",
		"      7 K\u212a\u00c9 #pets ; l:: [1, \"a\"]",
		"  3 [[Big Dogs]] [[dogs]] #a//B ; n:: 5",
		"2 [[Cats]] #Pet ; l:: [1]",
		"  8 ##pet \\[[cats]] ; l:: [] ; n:: yes",
		"5 big dogs",
		"  6 none ; d:: 2024-03-06..2024-03-07",
		"1 ",
	)
}

func wantFound(t *testing.T, l []api.Block, c ask.Cond, wanted ...int) {
	t.Helper()
	name := must(ask.CondText(c))
	got, bad := ask.Find(l, c)
	want(t, name, got, wanted, bad, api.OK)
	for _, id := range tree.Order(l) {
		holds, bad := ask.Holds(l, c, id)
		want(t, fmt.Sprint(name, " for ", id), holds, slices.Contains(wanted, id), bad, api.OK)
	}
}

func TestFind(t *testing.T) {
	for s, wanted := range map[string][]int{
		`all(page "a", has(n))`: {2, 3}, `tag "X"`: {2}, `links "A"`: {3}, `kid(.n > 1)`: {1},
	} {
		wantFound(t, example(), cond(s), wanted...)
	}
	all := []int{9, 4, 12, 7, 3, 2, 8, 5, 6, 1}
	for s, wanted := range map[string][]int{
		// And, Or, Not
		`all()`: all, `any()`: nil, `not(any())`: all, `not(all())`: nil, `all(is-page)`: {9, 2, 5, 1}, `any(is-page)`: {9, 2, 5, 1},
		`all(is-page, has(n))`: {9}, `all(has(n), is-page)`: {9}, `any(under 9, under 2)`: {4, 12, 7, 3, 8}, `any(any(), deep 4, any(deep 3))`: {12, 7},
		`all(deep 2, deep 3, deep 4)`: {7}, `not(is-page)`: {4, 12, 7, 3, 8, 6}, `not(not(deep 4))`: {7},
		// Says: what is shown, A to Z as a to z, and no other letters.
		`says "bold #no shown #pet/dog"`: {4}, `says "BOLD"`: {4}, `says "**"`: nil, `says "\\"`: nil, `says "big dogs"`: {3, 5}, `says "Big  Dogs"`: {9}, `says "code cats"`: nil,
		`says "code [[ cats]] ((4))"`: {12}, "says \"K\u212a\"": {7}, `says "kk"`: nil, "says \"\u00c9\"": {7}, "says \"\u00e9\"": nil, "says \"\xe9\"": nil, "says \"\x84\"": {7}, `says "cats"`: {12, 2, 8}, `says " "`: {9, 4, 12, 7, 3, 2, 8, 5},
		// LinksTo: links of the text alone, those of a title, too.
		`links "big dogs"`: {4, 3}, `links "BIG   DOGS"`: {4, 3}, `links "dogs"`: {3}, `links "cats"`: {2}, `links "shown"`: nil, `links "big"`: nil,
		// Tagged: also by what is below a tag, but not by what begins with it only.
		`tag "pet"`: {4, 2}, `tag "PET"`: {4, 2}, `tag "Pet/dog"`: {4}, `tag "pet_"`: {12}, `tag "pets"`: {7}, `tag "pe"`: nil, `tag "dog"`: nil, `tag "a"`: {3}, `tag "a//b"`: {3}, `tag "A//B"`: {3}, `tag "b"`: nil,
		// InPage
		`page "big dogs"`: {9, 4, 12, 7, 3, 5, 6}, `page "BIG    dogs"`: {9, 4, 12, 7, 3, 5, 6}, `page "big"`: nil, `page "none"`: nil, `page "cats"`: nil,
		// IsPage, Deep, Under
		`is-page`: {9, 2, 5, 1}, `deep 0`: all, `deep 1`: all, `deep 2`: {4, 12, 7, 3, 8, 6}, `deep 3`: {12, 7}, `deep 4`: {7}, `deep 5`: nil, `deep 1000000`: nil,
		`under 0`: all, `under 9`: {4, 12, 7, 3}, `under 4`: {12, 7}, `under 12`: {7}, `under 7`: nil, `under 10`: nil, `under 1000000`: nil,
		// Has, Equal, Less, More
		`has(n)`: {9, 4, 12, 3, 8}, `has(d)`: {12, 6}, `has(x)`: nil, `has(nn)`: nil,
		`.n = 5`: {9, 3}, `.n = "5"`: {12}, `.n = yes`: {8}, `.n = no`: nil, `.x = 5`: nil, `.n < 5`: {4}, `.n < 6`: {9, 4, 3}, `.n > -4`: {9, 4, 3}, `.n > -3`: {9, 3}, `.n > 5`: nil, `.n < -3`: nil,
		`.n > no`: {8}, `.n < "6"`: {12}, `.n > "5"`: nil, `.n > ""`: {12}, `.x < 5`: nil, `.x > 5`: nil,
		`.d = 2024-03-06`: {12}, `.d < 2024-03-07`: {12}, `.d > 2024-03-05`: {12}, `.d = 2024-03-06..2024-03-07`: {6}, `.d < 2024-03-06..2024-03-08`: {6}, `.d > 2024-03-06..2024-03-07`: nil,
		`.l = []`: {8}, `.l = [1]`: {2}, `.l = [1, "a"]`: {7}, `.l > []`: {7, 2}, `.l > [1]`: {7}, `.l < [1]`: {8}, `.l < [1, "a"]`: {2, 8},
		// Parent, SomeKid, SomeBelow
		`parent(is-page)`: {4, 3, 8, 6}, `parent(all())`: {4, 12, 7, 3, 8, 6}, `parent(any())`: nil, `parent(deep 2)`: {12, 7}, `parent(parent(is-page))`: {12}, `parent(not(has(n)))`: {8, 6},
		`kid(all())`: {9, 4, 12, 2, 5}, `kid(any())`: nil, `kid(deep 3)`: {4, 12}, `kid(.n = 5)`: {9}, `kid(kid(all()))`: {9, 4}, `kid(is-page)`: nil,
		`below(all())`: {9, 4, 12, 2, 5}, `below(deep 4)`: {9, 4, 12}, `below(.n = -3)`: {9}, `below(below(all()))`: {9, 4}, `below(is-page)`: nil, `below(has(d))`: {9, 4, 5},
		`below(parent(deep 3))`: {9, 4, 12}, `parent(below(parent(kid(deep 4))))`: {4, 12, 7, 3}, `not(below(all()))`: {7, 3, 8, 6, 1},
	} {
		wantFound(t, zoo(), cond(s), wanted...)
	}
	wantFound(t, tree.Empty(), cond("all()"))
}

// All letters from A to Z are as those from a to z, and no other bytes are as others.
func TestLettersInAnyCase(t *testing.T) {
	const large, little = "ABCDEFGHIJKLMNOPQRSTUVWXYZ", "abcdefghijklmnopqrstuvwxyz"
	l := base("1 "+large, "  2 [["+large+"]]", "  3 #"+large, "4 "+little, "  5 [["+little+"]]", "  6 #"+little+"/x")
	for _, s := range []string{large, little} {
		wantFound(t, l, words(ask.Says, s), 1, 2, 3, 4, 5, 6)
		wantFound(t, l, words(ask.LinksTo, s), 2, 5)
		wantFound(t, l, words(ask.Tagged, s), 3, 6)
		wantFound(t, l, words(ask.InPage, s), 1, 2, 3, 4, 5, 6)
	}
	for c := 32; c < 256; c++ {
		other := c ^ 32 // of a letter the other case
		if c == 127 || other < 32 || other == 127 {
			continue
		}
		text := func(c int) string { return "`" + string([]byte{byte(c)}) + "` [[x]]" }
		l := base("1 x")
		l[0].Kids = append(l[0].Kids, 2)
		l = append(l, api.Block{Id: 2, Text: text(c)})
		is := strings.Contains(large+little, string([]byte{byte(c)}))
		for _, c := range []int{c, other} {
			got, bad := ask.Holds(l, words(ask.Says, string([]byte{byte(c)})+" x"), 2)
			want(t, fmt.Sprint(c), got, is || c != other, bad, api.OK)
		}
	}
}

// A title can have what a target cannot.
func TestTitlesThatAreNoTargets(t *testing.T) {
	l := base("1  a ", "  2 x", "3 a\xff", "4 [[a]]")
	wantFound(t, l, words(ask.InPage, "a"), 1, 2)
	wantFound(t, l, words(ask.InPage, "A\xff"), 3)
	wantFound(t, l, words(ask.LinksTo, "a"), 4)
	wantFound(t, l, words(ask.InPage, "a\x7f"))
}

func TestHoldsErrors(t *testing.T) {
	wrong := kids(ask.Not)
	for _, id := range []int{0, -1, 10, 13, api.MaxId, api.MaxId + 1} {
		got, bad := ask.Holds(zoo(), cond("all()"), id)
		want(t, fmt.Sprint(id), got, false, bad, api.ErrNone)
		got, bad = ask.Holds(zoo(), wrong, id)
		want(t, "wrong condition", got, false, bad, api.ErrForm)
		got, bad = ask.Holds(nil, wrong, id)
		want(t, "wrong base", got, false, bad, api.ErrForm)
		got, bad = ask.Holds([]api.Block{{Id: 1}}, wrong, id)
		want(t, "wrong base", got, false, bad, api.ErrRange)
	}
	for _, c := range append(basics(), wrong, within(ask.Not, 60, page()), has("A")) {
		bad := ask.CheckCond(c)
		_, gotBad := ask.Holds(zoo(), c, 9)
		wantError(t, "Holds", gotBad, bad)
		found, gotBad := ask.Find(zoo(), c)
		wantError(t, "Find", gotBad, bad)
		if bad != api.OK && len(found) > 0 {
			t.Error(found)
		}
		_, gotBad = ask.Find([]api.Block{{}, {Id: 1}}, c)
		wantError(t, "Find", gotBad, api.ErrLoop)
	}
}

// crowd is a base of MaxBlocks blocks: pages with 499 blocks below each, all with the same long text and the same properties.
func crowd(text string, props ...api.Prop) []api.Block {
	l := make([]api.Block, api.MaxBlocks)
	for id := 1; id < len(l); id++ {
		parent := 0
		if id > 4 {
			parent = id%4 + 1
		}
		l[id] = api.Block{Id: id, Parent: parent, Text: text, Props: props}
		l[parent].Kids = append(l[parent].Kids, id)
	}
	return l
}

// Conditions that go up and down by turns must not take a step more for each block with each turn.
func TestUpAndDown(t *testing.T) {
	begin := time.Now()
	l := crowd("x")
	c, same := page(), cond("says \"no\"")
	for range 19 {
		c, same = kids(ask.Parent, kids(ask.SomeKid, c)), kids(ask.SomeKid, kids(ask.Parent, same))
	}
	if got, bad := ask.Find(l, c); bad != api.OK || len(got) != 0 {
		t.Error(len(got), bad)
	}
	if got, bad := ask.Find(l, kids(ask.Not, same)); bad != api.OK || len(got) != api.MaxBlocks-1 {
		t.Error(len(got), bad)
	}
	deep := []api.Block{{Kids: []int{1}}}
	for id := 1; id <= api.MaxDeep; id++ {
		deep = append(deep, api.Block{Id: id, Parent: id - 1, Kids: []int{id + 1}})
	}
	deep[api.MaxDeep].Kids = nil
	wantFound(t, deep, within(ask.SomeBelow, 39, number(ask.Deep, 40)), 1)
	wantFound(t, deep, within(ask.SomeBelow, 39, number(ask.Deep, 41)))
	wantFound(t, deep, within(ask.Parent, 39, page()), 40)
	wantFound(t, deep, within(ask.SomeKid, 39, has("n")))
	if took := time.Since(begin); took > 20*time.Second {
		t.Error(took)
	}
}

func TestMuchText(t *testing.T) {
	begin := time.Now()
	var many []ask.Cond
	for n := range 59 {
		many = append(many, words(1+ask.Or+n%5, strings.Repeat("a", 90)+strconv.Itoa(n)))
		if many[n].Op == ask.Not {
			many[n] = has("n")
		}
	}
	for _, piece := range []string{"a", "[[a]]", "#a/b/c ", "**a"} {
		l := crowd(strings.Repeat(piece, api.MaxString/len(piece)))
		got, bad := ask.Find(l, kids(ask.Or, many...))
		want(t, piece, got, nil, bad, api.OK)
	}
	if took := time.Since(begin); took > time.Minute {
		t.Error(took)
	}
}
