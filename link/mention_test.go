package link_test

import (
	"slices"
	"strings"
	"testing"

	"florilegium/api"
	"florilegium/link"
	"florilegium/text"
	"florilegium/tree"
)

// P4.3

// mentioned gives the parts of a text, the only one beside those of a page, that mention the page.
// The page's line has its names.
func mentioned(page, s string) []string {
	l := with(base("1 "+page, "  4 "+s, "2 "+s, "  3"), 3, s)
	mentions := must(link.Mentions(l, 1))
	var parts []string
	for _, m := range mentions {
		if m.Page != 1 || m.Block != 3 {
			panic(m)
		}
		parts = append(parts, s[m.From:m.To])
	}
	return parts
}

func TestMentions(t *testing.T) {
	many := make([]string, 20)
	for i := range many {
		many[i] = `"` + strings.Repeat("ab ", i) + `ab"`
	}
	full := `Ab ; alias:: [` + strings.Join(many, ", ") + `]`
	for _, c := range []struct {
		page, s string
		want    []string
	}{
		{"Dogs", "", nil},
		{"Dogs", "dogs", []string{"dogs"}},
		{"Dogs", "DOGS, dogs; dOgS", []string{"DOGS", "dogs", "dOgS"}},
		{"Dogs", "dogs dogs,dogs", []string{"dogs", "dogs", "dogs"}},
		{"Dogs", "dog", nil},
		{"Dogs", "adogs dogsa 1dogs dogs2 dogsX Xdogs édogs dogsé", nil},
		{"Dogs", "_dogs_ -dogs- (dogs) 'dogs's dogs.", []string{"dogs", "dogs", "dogs", "dogs", "dogs"}},
		{"Dogs", `\dogs \\dogs dogs\ \*dogs dogs\*`, []string{"dogs", "dogs", "dogs"}},
		{"Dogs", "[[dogs]] [[x|dogs]] `dogs` #dogs #x/dogs ((dogs))", []string{"dogs"}},
		{"Dogs", "##dogs &#dogs dogs#dogs #-dogs/", []string{"dogs", "dogs", "dogs", "dogs", "dogs"}},
		{"Dogs", "**dogs** **do**gs dogs** dogs", []string{"dogs", "dogs", "dogs"}},
		{"Dogs", "[[dogs] [dogs]] [[ dogs]] [[dogs|]]", []string{"dogs", "dogs", "dogs", "dogs"}},
		{"Big dogs", "big dogs, big  dogs, BIG DOGS", []string{"big dogs", "BIG DOGS"}},
		{"  Big   dogs", "big dogs, big   dogs", []string{"big dogs"}},
		{"Big dogs", "big **dogs** big \\dogs", nil},
		{"É É", "é é É É \xc3\x89 É É", []string{"É É", "É É"}}, // letters from 128 on have one case
		{"A", "a A", nil},
		{"A ; alias:: [\"b\", \"cd\", \" e \"]", "a b cd e", []string{"cd"}},
		{"é", "é xé éé", []string{"é"}}, // two bytes
		{"12", "12 121 1/12", []string{"12", "12"}},
		{"-a", "-a --a x-a -a- \\-a", []string{"-a", "-a", "-a"}},
		{"a-", "a- a-b a-- a-\\", []string{"a-", "a-", "a-"}},
		{"*a", "**a *a ***a", []string{"*a", "*a"}},
		{"dog ; alias:: [\"dog house\", \"house\", \"dog ho\"]", "dog house dog houses dog, house dog ho", []string{"dog house", "dog", "dog", "house", "dog ho"}},
		{"house dog ; alias:: \"dog house\"", "dog house dog house dog", []string{"dog house", "dog house"}},
		{"ab ; alias:: \"ab ab\"", "ab ab ab", []string{"ab ab", "ab"}},
		{"**x** ; alias:: \"xx\"", "**x** xx", []string{"xx"}},
		{"a[b ; alias:: [\"a]b\", \"a|b\", \"ok\"]", "a[b a]b a|b ok", []string{"ok"}},
		{"Dogs ; alias:: [\"a`b\", \"ok\"]", "a`b ok", []string{"ok"}},
		{strings.Repeat("x", 100), strings.Repeat("x", 100), []string{strings.Repeat("x", 100)}},
		{strings.Repeat("x", 101), strings.Repeat("x", 101), nil},
		{strings.Repeat("x", 49) + "    " + strings.Repeat("y", 50), strings.Repeat("x", 49) + " " + strings.Repeat("y", 50), []string{strings.Repeat("x", 49) + " " + strings.Repeat("y", 50)}},
		{full, strings.Repeat("ab ", 45), []string{strings.Repeat("ab ", 19) + "ab", strings.Repeat("ab ", 19) + "ab", "ab ab ab ab ab"}},
		{" ; alias:: [\"\", \"ok\"]", "a  ok", []string{"ok"}},
		{"ok ; alias:: [[aa]]", "aa", nil},
	} {
		if got := mentioned(c.page, c.s); !slices.Equal(got, c.want) {
			t.Errorf("mentions of %.60q in %.60q: %q, want %q", c.page, c.s, got, c.want)
		}
	}
}

// What may stand before and after a mention.
func TestMentionsBesideBytes(t *testing.T) {
	for c := byte(32); c != 0; c++ {
		if c == 127 {
			continue
		}
		isWord := c >= 128 || '0' <= c && c <= '9' || 'a' <= c && c <= 'z' || 'A' <= c && c <= 'Z'
		before := mentioned("Dogs", string([]byte{c})+"dogs")
		after := mentioned("Dogs", "dogs"+string([]byte{c}))
		if (len(before) == 1) != (!isWord && c != '\\' && c != '#') || (len(after) == 1) != !isWord { // #dogs is a tag
			t.Errorf("%q: %q, %q", c, before, after)
		}
	}
}

// A name that leads to another page is none.
func TestMentionsOfNamesThatLead(t *testing.T) {
	l := base("5 Cat ; alias:: [\"Dog\", \"tom\", \"kit\"]", "2 dog ; alias:: \"tom\"", "7 CAT ; alias:: \"kit\"", "9 x", "  8 dog cat tom kit")
	at := func(page int, positions ...int) []link.Mention {
		var mentions []link.Mention
		for _, from := range positions {
			mentions = append(mentions, link.Mention{Page: page, Block: 8, From: from, To: from + 3})
		}
		return mentions
	}
	for page, wanted := range map[int][]link.Mention{5: at(5, 4, 12), 2: at(2, 0, 8), 7: nil, 9: nil} {
		got, bad := link.Mentions(l, page)
		want(t, "leading", got, wanted, bad, api.OK)
	}
}

func TestMentionsByBlock(t *testing.T) {
	l := base("3 dogs", "  2 dogs", "    10 dogs", "8 dogs, more", "  4 dogs and dogs", "    1 my dogs", "  6 dogs")
	got, bad := link.Mentions(l, 3)
	want(t, "dogs", got, []link.Mention{{3, 1, 3, 7}, {3, 4, 0, 4}, {3, 4, 9, 13}, {3, 6, 0, 4}}, bad, api.OK)
	got, bad = link.Mentions(l, 8)
	want(t, "dogs, more", got, nil, bad, api.OK)
	for _, page := range []int{-1, 0, 1, 2, 4, 5, api.MaxId} {
		got, bad := link.Mentions(l, page)
		want(t, "no page", got, nil, bad, api.ErrNone)
	}
	got, bad = link.Mentions(example(), 3)
	want(t, "example", got, []link.Mention{{3, 2, 16, 19}}, bad, api.OK)
	got, bad = link.Mentions(zoo(), 9)
	want(t, "zoo", got, []link.Mention{{9, 7, 2, 7}, {9, 8, 3, 7}}, bad, api.OK)
}

func TestLinkUp(t *testing.T) {
	got, bad := link.LinkUp(example(), link.Mention{Page: 3, Block: 2, From: 16, To: 19})
	want(t, "example", got, "see [[dogs]], a [[dog]]'s life", bad, api.OK)
	got, bad = link.LinkUp(zoo(), link.Mention{Page: 9, Block: 7, From: 2, To: 7})
	want(t, "zoo", got, "a [[hound]], `[[Dogs]]`, ((4)) ((7)) #pet/cat", bad, api.OK)
	for _, m := range []link.Mention{
		{}, {3, 2, 16, 18}, {3, 2, 15, 19}, {3, 2, 6, 10}, {3, 1, 16, 19}, {3, 3, 16, 19}, {1, 2, 16, 19}, {2, 2, 16, 19}, {0, 2, 16, 19}, {4, 2, 16, 19},
		{-1, -1, -1, -1}, {3, 2, 19, 16}, {3, 2, 16, 1 << 30}, {api.MaxId + 1, 2, 16, 19},
	} {
		got, bad := link.LinkUp(example(), m)
		want(t, "none", got, "", bad, api.ErrNone)
	}
	for length, wanted := range map[int]api.Errno{api.MaxString - 4: api.OK, api.MaxString - 3: api.ErrLarge, api.MaxString: api.ErrLarge} {
		s := strings.Repeat(".", length-4) + "dogs"
		l := with(example(), 2, s)
		got, bad := link.LinkUp(l, link.Mention{Page: 3, Block: 2, From: length - 4, To: length})
		if wanted == api.OK {
			want(t, "long", got, s[:length-4]+"[[dogs]]", bad, wanted)
		} else {
			want(t, "too long", got, "", bad, wanted)
		}
		got, bad = link.LinkUp(l, link.Mention{Page: 3, Block: 2})
		want(t, "long and none", got, "", bad, api.ErrNone)
	}
}

// What follows.
func TestLinkUpAddsALinkAndShowsTheSame(t *testing.T) {
	var d dice
	count := 0
	for range 1500 {
		l := d.base(12)
		for _, page := range l[0].Kids {
			for _, m := range must(link.Mentions(l, page)) {
				was, _ := tree.Get(l, m.Block)
				s, bad := link.LinkUp(l, m)
				if bad != api.OK {
					t.Fatal(m, bad)
				}
				before, after := len(must(link.Back(l, page))), len(must(link.Back(with(l, m.Block, s), page)))
				if after != before+1 || text.PlainOf(s) != text.PlainOf(was.Text) {
					t.Fatalf("%q became %q: links %d to %d", was.Text, s, before, after)
				}
				count++
			}
		}
	}
	if count < 500 {
		t.Error(count)
	}
}
