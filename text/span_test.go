package text_test

import (
	"slices"
	"strings"
	"testing"

	"florilegium/api"
	"florilegium/text"
)

func TestConstants(t *testing.T) {
	if text.MaxEdits != 100 || text.MaxMarks != 1000 {
		t.Error(text.MaxEdits, text.MaxMarks)
	}
	kinds := []int{text.Plain, text.Escape, text.Code, text.Link, text.Ref, text.Tag, text.Bold}
	if !slices.Equal(kinds, []int{1, 2, 3, 4, 5, 6, 7}) {
		t.Error(kinds)
	}
}

// P1.1

func TestCheckOfEachByte(t *testing.T) {
	for c := range 256 {
		want := api.OK
		if c < 32 || c == 127 {
			want = api.ErrByte
		}
		if got := text.Check("a" + string([]byte{byte(c)})); got != want {
			t.Error(c, got)
		}
	}
}

func TestCheck(t *testing.T) {
	most := strings.Repeat("a", api.MaxString)
	cases := []struct {
		s    string
		want api.Errno
	}{
		{"", api.OK},
		{"a [[b]] ** ~ \x80\xff é", api.OK},
		{" ", api.OK},
		{"a\x1fb", api.ErrByte},
		{"\x00", api.ErrByte},
		{"a\n", api.ErrByte},
		{"\t", api.ErrByte},
		{"\x7f", api.ErrByte},
		{most, api.OK},
		{most + "a", api.ErrLarge},
		{most + "\n", api.ErrLarge},
		{most[1:] + "\n", api.ErrByte},
		{strings.Repeat("é", api.MaxString/2), api.OK},
		{strings.Repeat("é", api.MaxString/2) + "a", api.ErrLarge},
	}
	for _, c := range cases {
		if got := text.Check(c.s); got != c.want {
			t.Errorf("Check(%.20q of %d bytes) = %d, want %d", c.s, len(c.s), got, c.want)
		}
	}
}

// P1.2

// row writes spans in short: a word for the kind, and the text between < and >; with ! in front, if it is strong.
func row(spans []text.Span) string {
	names := []string{"none", "plain", "escape", "code", "link", "ref", "tag", "bold"}
	var b strings.Builder
	for _, span := range spans {
		if span.Strong {
			b.WriteString("!")
		}
		b.WriteString(names[span.Kind] + "<" + span.Text)
		if span.Show != "" {
			b.WriteString("^" + span.Show)
		}
		b.WriteString(">")
	}
	return b.String()
}

func checkRows(t *testing.T, cases [][2]string) {
	t.Helper()
	for _, c := range cases {
		if got := row(text.Spans(c[0])); got != c[1] {
			t.Errorf("Spans(%q) = %s, want %s", c[0], got, c[1])
		}
	}
}

// plain has strings without a mark.
func checkPlain(t *testing.T, plain []string) {
	t.Helper()
	for _, s := range plain {
		want := []text.Span{{Kind: text.Plain, To: len(s), Text: s}}
		if got := text.Spans(s); !slices.Equal(got, want) {
			t.Errorf("Spans(%q) = %s", s, row(got))
		}
	}
}

func TestSpansFields(t *testing.T) {
	s := `x\#**` + "`c d`[[T u]]" + `**[[T|s|w]]((1000000))#g/h-_1.`
	want := []text.Span{
		{Kind: text.Plain, From: 0, To: 1, Text: "x"},
		{Kind: text.Escape, From: 1, To: 3, Text: "#"},
		{Kind: text.Bold, From: 3, To: 5, Text: "**", Strong: true},
		{Kind: text.Code, From: 5, To: 10, Text: "c d", Strong: true},
		{Kind: text.Link, From: 10, To: 17, Text: "T u", Strong: true},
		{Kind: text.Bold, From: 17, To: 19, Text: "**", Strong: true},
		{Kind: text.Link, From: 19, To: 28, Text: "T", Show: "s|w"},
		{Kind: text.Ref, From: 28, To: 39, Text: "1000000", Id: 1000000},
		{Kind: text.Tag, From: 39, To: 46, Text: "g/h-_1"},
		{Kind: text.Plain, From: 46, To: 47, Text: "."},
	}
	if got := text.Spans(s); !slices.Equal(got, want) {
		t.Errorf("%+v", got)
	}
	if got := text.Spans(""); len(got) != 0 {
		t.Errorf("%+v", got)
	}
}

func TestSpansOfEscapes(t *testing.T) {
	for c := range 256 {
		s := "\\" + string([]byte{byte(c)})
		punctuation := c > 32 && c < 127 && !('0' <= c && c <= '9' || 'a' <= c && c <= 'z' || 'A' <= c && c <= 'Z')
		want := []text.Span{{Kind: text.Plain, To: 2, Text: s}}
		if punctuation {
			want = []text.Span{{Kind: text.Escape, To: 2, Text: s[1:]}}
		}
		if got := text.Spans(s); !slices.Equal(got, want) {
			t.Errorf("Spans(%q) = %+v", s, got)
		}
	}
	checkPlain(t, []string{`\`, `a\`, `\a`, `\ `})
	checkRows(t, [][2]string{
		{`\\`, `escape<\>`},
		{`\\\`, `escape<\>plain<\>`},
		{`\[[a]]`, `escape<[>plain<[a]]>`},
		{`\[[[a]]`, `escape<[>link<a>`},
		{`\*`, `escape<*>`},
		{`\***`, `escape<*>plain<**>`},
		{"\\`a`", "escape<`>plain<a`>"},
		{`\((1))`, `escape<(>plain<(1))>`},
		{`\\#a`, `escape<\>tag<a>`},
	})
}

func TestSpansOfCode(t *testing.T) {
	checkPlain(t, []string{"`", "``", "```", "`a", "a`"})
	checkRows(t, [][2]string{
		{"`a`", "code<a>"},
		{"` `", "code< >"},
		{"``a`", "plain<`>code<a>"},
		{"`a``", "code<a>plain<`>"},
		{"`a``b`", "code<a>code<b>"},
		{"``a``", "plain<`>code<a>plain<`>"},
		{"`[[a]]#b((1))**\\`x", "code<[[a]]#b((1))**\\>plain<x>"},
		{"`\n`", "code<\n>"},
		{"[[a|`]]`", "link<a^`>plain<`>"},
	})
}

func TestSpansOfLinks(t *testing.T) {
	most := strings.Repeat("é", api.MaxTitle/2)
	checkPlain(t, []string{
		"[[", "[[]]", "[[a", "[[a]", "[a]]", "[[ a]]", "[[a ]]", "[[ ]]", "[[a|]]", "[[|b]]", "[[a|b]", "[[a|b",
		"[[a[b]]", "[[a]b]]", "[[a`b]]", "[[a\nb]]", "[[\x00]]", "[[a\x1f|b]]", "[[a |b]]", "[[a|b[c]]", "[[a|b]c]]",
		"[[" + most + "a]]", "[[" + most + "a|b]]",
	})
	checkRows(t, [][2]string{
		{"[[a]]", "link<a>"},
		{"[[a b]]", "link<a b>"},
		{"[[a\x7f]]", "link<a\x7f>"},
		{"[[\xff]]", "link<\xff>"},
		{"[[a| ]]", "link<a^ >"},
		{"[[a| b ]]", "link<a^ b >"},
		{"[[a||]]", "link<a^|>"},
		{"[[a|`\n\x00]]", "link<a^`\n\x00>"},
		{"[[a|b|c]]", "link<a^b|c>"},
		{"[[" + most + "]]", "link<" + most + ">"},
		{"[[" + most + "|" + most + most + "]]", "link<" + most + "^" + most + most + ">"},
		{"[[[a]]", "plain<[>link<a>"},
		{"[[a]]]", "link<a>plain<]>"},
		{"[[a [[b]]", "plain<[[a >link<b>"},
		{"[[a]] [[b]]", "link<a>plain< >link<b>"},
		{"[[a]][[b]]", "link<a>link<b>"},
		{"[[#a]]", "link<#a>"},
		{"[[a#b((1))**\\]]", "link<a#b((1))**\\>"},
		{"[[ #a]]", "plain<[[ >tag<a>plain<]]>"},
		{"[[a|**b**]]", "link<a^**b**>"},
	})
}

func TestSpansOfRefs(t *testing.T) {
	checkPlain(t, []string{
		"((", "(())", "((0))", "((01))", "((1)", "(1))", "((1", "((1000001))", "((9999999))", "((10000000))",
		"((00000001))", "((1a))", "((a))", "(( 1))", "((1 ))", "((-1))", "((+1))", "((18446744073709551617))",
	})
	checkRows(t, [][2]string{
		{"((1))", "ref<1>"},
		{"((999999))", "ref<999999>"},
		{"((1000000))", "ref<1000000>"},
		{"(((7)))", "plain<(>ref<7>plain<)>"},
		{"((1))((2))", "ref<1>ref<2>"},
		{"((10)) ((9)", "ref<10>plain< ((9)>"},
	})
	for _, span := range text.Spans("((12))x((1000000))") {
		want := map[string]int{"12": 12, "x": 0, "1000000": 1000000}[span.Text]
		if span.Id != want {
			t.Errorf("%+v", span)
		}
	}
}

func TestSpansOfTags(t *testing.T) {
	most := strings.Repeat("t", api.MaxTitle)
	checkPlain(t, []string{
		"#", "# a", "#1", "#12-3_4/5", "#-", "#_", "#/a", "#a/", "#a/b/", "#/", "##", "##a", "a#b", "Z#b", "1#b", "&#b", "\xc3#b",
		"#" + most + "t", "#" + most + "/", "#.a", "9#a",
	})
	checkRows(t, [][2]string{
		{"#a", "tag<a>"},
		{"#1a", "tag<1a>"},
		{"#a1", "tag<a1>"},
		{"#-a_", "tag<-a_>"},
		{"#\xff", "tag<\xff>"},
		{"#a/b", "tag<a/b>"},
		{"#a//b", "tag<a//b>"},
		{"#" + most, "tag<" + most + ">"},
		{"#" + most + ".", "tag<" + most + ">plain<.>"},
		{"#é!", "tag<é>plain<!>"},
		{"#a#b", "tag<a>plain<#b>"},
		{"#a #b", "tag<a>plain< >tag<b>"},
		{".#a", "plain<.>tag<a>"},
		{"_#a", "plain<_>tag<a>"},
		{"/#a", "plain</>tag<a>"},
		{"#a/#b", "plain<#a/>tag<b>"},
		{"(#a)", "plain<(>tag<a>plain<)>"},
		{"[[a]]#b", "link<a>tag<b>"},
		{"((1))#b", "ref<1>tag<b>"},
		{"`a`#b", "code<a>tag<b>"},
		{`\##a`, "escape<#>plain<#a>"},
		{`\&#a`, "escape<&>plain<#a>"},
		{"**#a**", "!bold<**>!tag<a>!bold<**>"},
		{"#Az09_-", "tag<Az09_->"},
	})
}

// Which bytes can be where: for each byte, asked of a mark around it.
func TestBytesInMarks(t *testing.T) {
	for c := range 256 {
		b := string([]byte{byte(c)})
		digit := '0' <= c && c <= '9'
		letter := 'a' <= c && c <= 'z' || 'A' <= c && c <= 'Z' || c >= 128
		bracket := c == '[' || c == ']'
		cases := []struct {
			before, mark string
			kind         int
			want         bool
		}{
			{"", "#" + b, text.Tag, letter},
			{"", "#a" + b + "a", text.Tag, letter || digit || c == '_' || c == '-' || c == '/'},
			{b, "#a", text.Tag, !letter && !digit && c != '#' && c != '&' && c != '\\'},
			{"", "[[" + b + "]]", text.Link, c > 32 && !bracket && c != '|' && c != '`'},
			{"", "[[x" + b + "x]]", text.Link, c >= 32 && !bracket && c != '`'},
			{"", "[[x|" + b + "]]", text.Link, !bracket},
			{"", "`" + b + "`", text.Code, c != '`'},
			{"", "((1" + b + "))", text.Ref, digit},
		}
		for _, k := range cases {
			spans := text.Spans(k.before + k.mark)
			last := spans[len(spans)-1]
			if got := last.Kind == k.kind && last.From == len(k.before); got != k.want {
				t.Errorf("Spans(%q) = %+v", k.before+k.mark, spans)
			}
		}
	}
}

func TestSpansOfBold(t *testing.T) {
	checkPlain(t, []string{"*", "**", "***", "a*b", "**a", "a**", "* *"})
	checkRows(t, [][2]string{
		{"****", "!bold<**>!bold<**>"},
		{"*****", "!bold<**>!bold<**>plain<*>"},
		{"******", "!bold<**>!bold<**>plain<**>"},
		{"********", "!bold<**>!bold<**>!bold<**>!bold<**>"},
		{"a**b**c", "plain<a>!bold<**>!plain<b>!bold<**>plain<c>"},
		{"**a**b**c", "!bold<**>!plain<a>!bold<**>plain<b**c>"},
		{"**a** **b**", "!bold<**>!plain<a>!bold<**>plain< >!bold<**>!plain<b>!bold<**>"},
		{"a**b[[c]]d", "plain<a**b>link<c>plain<d>"},
		{"**\\*`c`[[l]]((1))#t**", "!bold<**>!escape<*>!code<c>!link<l>!ref<1>!tag<t>!bold<**>"},
		{"**a`**`", "plain<**a>code<**>"},
		{"**a\\**", "plain<**a>escape<*>plain<*>"},
		{"**a[[b|**]]**", "!bold<**>!plain<a>!link<b^**>!bold<**>"},
	})
}

func TestSpansOfPlain(t *testing.T) {
	checkPlain(t, []string{" ", "a b", "\x00\n\x7f\xff", "]]))", "a|b", "~!\"$%&'+,-./"})
}
