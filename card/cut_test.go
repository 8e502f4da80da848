package card_test

import (
	"fmt"
	"strings"
	"testing"

	"florilegium/api"
	"florilegium/card"
)

// P7.1

// pair gives the card of a string with two sides, and turned the one with the sides exchanged, too.
func pair(front, back string) []card.Card { return []card.Card{{No: 1, Front: front, Back: back}} }
func turned(front, back string) []card.Card {
	return append(pair(front, back), card.Card{No: 2, Front: back, Back: front})
}

func TestSides(t *testing.T) {
	for s, wanted := range map[string][]card.Card{
		"a :: b": pair("a", "b"), "a::b": pair("a", "b"), "  a  ::  b  ": pair("a", "b"), "a b :: c d": pair("a b", "c d"),
		"a ::: b": turned("a", "b"), "a:::b": turned("a", "b"), "  a  :::  b  ": turned("a", "b"),
		"": nil, " ": nil, ":": nil, "::": nil, ":::": nil, " :: ": nil, " ::: ": nil, "a : b": nil, "a: :b": nil, "a": nil,
		"a ::": nil, "a ::  ": nil, ":: b": nil, "  :: b": nil, "a :::": nil, "a ::: ": nil, " a:: ": nil,
		// The first one that has something on both sides divides.
		"a :: b :: c": pair("a", "b :: c"), "a :: b ::: c": pair("a", "b ::: c"), "a ::: b :: c": turned("a", "b :: c"),
		":: a :: b": pair(":: a", "b"), " :: a ::: b": turned(":: a", "b"), ":: a ::": nil, "::a": nil,
		"a :: ::": pair("a", "::"), "a ::: ::": turned("a", "::"), "a :: b ::": pair("a", "b ::"),
		// Four and more in a row: the first three are the first one.
		"a::::b": turned("a", ":b"), "a:::::b": turned("a", "::b"), "a::::": turned("a", ":"), "a:::::": turned("a", "::"),
		// Colons at the beginning: a colon is a byte that is no space.
		":::b": pair(":", "b"), "::: a ::: b": pair(":", "a ::: b"), "::::b": turned(":", "b"), "::::": nil, ":::::": turned(":", ":"),
		// Other bytes are no spaces.
		"\t::\n": pair("\t", "\n"), " \xc3 :: \xa0 ": pair("\xc3", "\xa0"), "\xc3\xa4::\xc3\xb6": pair("\xc3\xa4", "\xc3\xb6"), "\x00:::\xff": turned("\x00", "\xff"),
		"a :: a": pair("a", "a"),
		// A string with two sides has no gaps, one without them can have some.
		"{{a}} :: {{b}}": pair("{{a}}", "{{b}}"), "{{a::b}}": pair("{{a", "b}}"), "{{a}} ::": {{No: 1, Front: "[...] ::", Back: "a"}}, ":: {{a}}": {{No: 1, Front: ":: [...]", Back: "a"}},
	} {
		want(t, s, card.Cut(s), wanted, 0, 0)
	}
}

// No byte but a space is one.
func TestOtherBytesThanSpaces(t *testing.T) {
	for c := range 256 {
		side := string([]byte{byte(c)})
		wanted := turned(side, side)
		if side == " " {
			wanted = nil
		}
		want(t, fmt.Sprint(c), card.Cut(side+":::"+side), wanted, 0, 0)
		if wanted != nil {
			want(t, fmt.Sprint(c), card.Cut(" "+side+"  ::  "+side+" "), pair(side, side), 0, 0)
		}
	}
}

func TestGaps(t *testing.T) {
	for s, wanted := range map[string][]card.Card{
		"{{a}}": pair("[...]", "a"), " {{a}} ": pair(" [...] ", "a"), "x{{ a }}y": pair("x[...]y", " a "),
		"{{a|b}}": pair("[b]", "a"), "{{a|}}": pair("[]", "a"), "{{|b}}": pair("[b]", ""), "{{|}}": pair("[]", ""), "{{a|b|c}}": pair("[b|c]", "a"),
		"{{a}}{{b}}":                    {{No: 1, Front: "[...]b", Back: "a"}, {No: 2, Front: "a[...]", Back: "b"}},
		"1 {{a|x}} 2 {{b|y}} 3 {{c}} 4": {{No: 1, Front: "1 [x] 2 b 3 c 4", Back: "a"}, {No: 2, Front: "1 a 2 [y] 3 c 4", Back: "b"}, {No: 3, Front: "1 a 2 b 3 [...] 4", Back: "c"}},
		"{{}}":                          nil, "{{": nil, "}}": nil, "{a}": nil, "{{a": nil, "{{a}": nil, "{{a} }": nil, "a}}": nil, "{ {a}}": nil, "{{a{b}}": nil, "{{a}b}}": nil, "{{{}}}": nil,
		"{{{a}}}": pair("{[...]}", "a"), "{{{{a}}}}": pair("{{[...]}}", "a"), "{{a}}}": pair("[...]}", "a"), "{{{a}}": pair("{[...]", "a"),
		"{{a{{b}}c}}": pair("{{a[...]c}}", "b"), "{{a{b{{c}}": pair("{{a{b[...]", "c"), "{{}}a}}": nil, "{{}}{{a}}": pair("{{}}[...]", "a"), "{{a}{{b}}": pair("{{a}[...]", "b"),
		"{{\n}}": pair("[...]", "\n"), "{{\xff|\xc3}}": pair("[\xc3]", "\xff"), "\xc3{{\xa4}}\xff": pair("\xc3[...]\xff", "\xa4"), "{{a:b}}": pair("[...]", "a:b"),
		"{{\xc3}}": pair("[...]", "\xc3"), "{{abcdefghi\xc3}}": pair("[...]", "abcdefghi\xc3"),
	} {
		want(t, s, card.Cut(s), wanted, 0, 0)
	}
}

// The gaps beyond MaxNumbers have no cards, but are filled in those of others.
func TestManyGaps(t *testing.T) {
	for _, count := range []int{19, 20, 21, 30} {
		s := strings.Repeat("{{a|b}}", count)
		got := card.Cut(s)
		want(t, s, len(got), min(count, card.MaxNumbers), 0, 0)
		for i, c := range got {
			want(t, s, c, card.Card{No: i + 1, Front: strings.Repeat("a", i) + "[b]" + strings.Repeat("a", count-i-1), Back: "a"}, 0, 0)
		}
	}
}

// P7.2

func TestCards(t *testing.T) {
	l := []api.Block{
		{Kids: []int{9, 3}}, {Id: 2, Parent: 9, Text: "a ::: b"}, {Id: 3, Text: "{{no}}"}, {Id: 4, Parent: 9, Kids: []int{11}, Text: "no"},
		{Id: 7, Parent: 11, Text: "c :: d"}, {Id: 9, Kids: []int{4, 2}, Text: "no :: no"}, {Id: 11, Parent: 4, Kids: []int{7}, Text: "{{e}} {{f}}"},
	}
	got, bad := card.Cards(l)
	want(t, "Cards", got, []card.Card{
		{Block: 2, No: 1, Front: "a", Back: "b"}, {Block: 2, No: 2, Front: "b", Back: "a"}, {Block: 7, No: 1, Front: "c", Back: "d"},
		{Block: 11, No: 1, Front: "[...] f", Back: "e"}, {Block: 11, No: 2, Front: "e [...]", Back: "f"},
	}, bad, api.OK)
	got, bad = card.Cards(base("{{a}}"))
	want(t, "Cards of a page", got, nil, bad, api.OK)
	got, bad = card.Cards([]api.Block{{}})
	want(t, "Cards of an empty base", got, nil, bad, api.OK)
}

func TestCardsOfWrongBases(t *testing.T) {
	right := base("page", "a :: b")
	for wanted, l := range map[api.Errno][]api.Block{
		api.ErrForm: nil, api.ErrRange: {{Id: 1}}, api.ErrByte: append(right[:2:2], api.Block{Id: 2, Parent: 1, Text: "a :: \n"}), api.ErrNone: right[:2],
		api.ErrOrder: append(right[:3:3], right[1]), api.ErrLoop: append(right[:3:3], api.Block{Id: 3, Text: "a :: b"}), api.ErrLarge: make([]api.Block, api.MaxBlocks+1),
	} {
		got, bad := card.Cards(l)
		want(t, "Cards", got, nil, bad, wanted)
	}
}
