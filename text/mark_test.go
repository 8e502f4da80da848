package text_test

import (
	"slices"
	"strings"
	"testing"

	"florilegium/api"
	"florilegium/text"
)

// P1.3

func TestPlainOf(t *testing.T) {
	cases := [][2]string{
		{"", ""},
		{"a **b [[C|see]]** #t/u ((12))", "a b see #t/u ((12))"},
		{`\**\\`, `**\`},
		{"`**`", "**"},
		{"[[a]][[b|c]]", "ac"},
		{"[[a| ]]", " "},
		{"((1))#t", "((1))#t"},
		{"****", ""},
		{"**a**b**", "ab**"},
		{"***", "***"},
		{"((0))#1[[]]", "((0))#1[[]]"},
		{"[[a|`**b**`]]", "`**b**`"},
		{"\x00\xff", "\x00\xff"},
	}
	for _, c := range cases {
		if got := text.PlainOf(c[0]); got != c[1] {
			t.Errorf("PlainOf(%q) = %q, want %q", c[0], got, c[1])
		}
	}
}

func TestSource(t *testing.T) {
	cases := []struct {
		s    string
		want []int // of each number from 0 on
	}{
		{"", []int{0}},
		{"ab", []int{0, 1, 2}},
		{`a\*b`, []int{0, 2, 3, 4}},
		{"`ab`", []int{1, 2, 4}},
		{"[[ab]]", []int{2, 3, 6}},
		{"[[ab|cd]]", []int{5, 6, 9}},
		{"[[a|b|]]", []int{4, 5, 8}},
		{"((1))", []int{0, 1, 2, 3, 4, 5}},
		{"#t", []int{0, 1, 2}},
		{"**a**", []int{2, 5}},
		{"****", []int{4}},
		{"**a** **", []int{2, 5, 6, 7, 8}},
		{"a**b", []int{0, 1, 2, 3, 4}},
		{"**a**b**c", []int{2, 5, 6, 7, 8, 9}},
		{"[[T|s]]**[[U]]**", []int{4, 11, 16}},
	}
	for _, c := range cases {
		for at, want := range c.want {
			if got, bad := text.Source(c.s, at); bad != api.OK || got != want {
				t.Errorf("Source(%q, %d) = %d, %d, want %d", c.s, at, got, bad, want)
			}
		}
		for _, at := range []int{-1, len(c.want)} {
			if got, bad := text.Source(c.s, at); bad != api.ErrRange || got != 0 {
				t.Errorf("Source(%q, %d) = %d, %d", c.s, at, got, bad)
			}
		}
	}
}

func TestLinksRefsTags(t *testing.T) {
	s := "#b [[z]] ((9)) **[[a|s]] #a/c ((2))** [[z]]((9))#b `[[n]]((1))#n` \\[[n]] [[#n|((3))]]"
	if got := text.Links(s); !slices.Equal(got, []string{"z", "a", "z", "#n"}) {
		t.Errorf("%q", got)
	}
	if got := text.Refs(s); !slices.Equal(got, []int{9, 2, 9}) {
		t.Error(got)
	}
	if got := text.Tags(s); !slices.Equal(got, []string{"b", "a/c", "b"}) {
		t.Errorf("%q", got)
	}
	for _, s := range []string{"", "a", "[[a", "((0))", "##", "`[[a]]((1))#a`"} {
		if len(text.Links(s))+len(text.Refs(s))+len(text.Tags(s)) > 0 {
			t.Errorf("%q", s)
		}
	}
}

// P1.4

func TestEscaped(t *testing.T) {
	cases := [][2]string{
		{"", ""},
		{"a b", "a b"},
		{"\\`[(#*", "\\\\\\`\\[\\(\\#\\*"},
		{"[[a|b]]", `\[\[a|b]]`},
		{"((1))", `\(\(1))`},
		{"**a**", `\*\*a\*\*`},
		{`\*`, `\\\*`},
		{"a#b", `a\#b`},
		{"~]){}|_-\n\xff", "~]){}|_-\n\xff"},
	}
	for _, c := range cases {
		if got := text.Escaped(c[0]); got != c[1] {
			t.Errorf("Escaped(%q) = %q, want %q", c[0], got, c[1])
		}
	}
}

func TestLinkText(t *testing.T) {
	most := strings.Repeat("é", api.MaxTitle/2)
	cases := []struct {
		target, show, want string
		bad                api.Errno
	}{
		{"a", "", "[[a]]", api.OK},
		{"a b", "c", "[[a b|c]]", api.OK},
		{"a", " |`\n", "[[a| |`\n]]", api.OK},
		{"\x7f\xff#*(", " ", "[[\x7f\xff#*(| ]]", api.OK},
		{most, most + most, "[[" + most + "|" + most + most + "]]", api.OK},
		{most + "a", "", "", api.ErrName},
		{"", "a", "", api.ErrName},
		{" a", "", "", api.ErrName},
		{"a ", "", "", api.ErrName},
		{" ", "", "", api.ErrName},
		{"a[b", "", "", api.ErrName},
		{"a]b", "", "", api.ErrName},
		{"a|b", "", "", api.ErrName},
		{"a`b", "", "", api.ErrName},
		{"a\nb", "", "", api.ErrName},
		{"\x1f", "", "", api.ErrName},
		{"", "[", "", api.ErrName},
		{"a", "[", "", api.ErrForm},
		{"a", "]b", "", api.ErrForm},
		{"a", "b[c", "", api.ErrForm},
		{"a", "b]", "", api.ErrForm},
	}
	for _, c := range cases {
		if got, bad := text.LinkText(c.target, c.show); got != c.want || bad != c.bad {
			t.Errorf("LinkText(%q, %q) = %q, %d, want %q, %d", c.target, c.show, got, bad, c.want, c.bad)
		}
	}
}

// P1.5

func TestRetarget(t *testing.T) {
	full := strings.Repeat("x", api.MaxString-5) + "[[a]]"
	cases := []struct {
		s      string
		link   int
		target string
		want   string
		bad    api.Errno
	}{
		{"x[[a]]y", 0, "b c", "x[[b c]]y", api.OK},
		{"[[a|a]] #t **[[a]]** [[a]]", 0, "b", "[[b|a]] #t **[[a]]** [[a]]", api.OK},
		{"[[a|a]] #t **[[a]]** [[a]]", 1, "b", "[[a|a]] #t **[[b]]** [[a]]", api.OK},
		{"[[a|a]] #t **[[a]]** [[a]]", 2, "b", "[[a|a]] #t **[[a]]** [[b]]", api.OK},
		{"`[[a]]` [[b|x|y]]", 0, "longer", "`[[a]]` [[longer|x|y]]", api.OK},
		{"[[a]]", 0, "a", "[[a]]", api.OK},
		{"[[a]]", 0, "**", "[[**]]", api.OK},
		{"[[a]]", 1, "b", "", api.ErrNone},
		{"[[a]]", -1, "b", "", api.ErrNone},
		{"", 0, "b", "", api.ErrNone},
		{"`[[a]]`", 0, "b", "", api.ErrNone},
		{"((1))#t", 0, "b", "", api.ErrNone},
		{"[[a]]", 1, "", "", api.ErrNone},
		{"[[a]]", 0, "", "", api.ErrName},
		{"[[a]]", 0, "b ", "", api.ErrName},
		{"[[a]]", 0, "b]", "", api.ErrName},
		{"[[a]]", 0, strings.Repeat("b", api.MaxTitle+1), "", api.ErrName},
		{full, 0, "b", full[:api.MaxString-5] + "[[b]]", api.OK},
		{full, 0, "bc", "", api.ErrLarge},
		{full, 0, "", "", api.ErrName},
		{full + "x", 0, "b", "", api.ErrLarge},
		{"[[abc]]" + full[:api.MaxString-5], 0, "a", "[[a]]" + full[:api.MaxString-5], api.OK},
	}
	for _, c := range cases {
		if got, bad := text.Retarget(c.s, c.link, c.target); got != c.want || bad != c.bad {
			t.Errorf("Retarget(%.30q, %d, %q) = %.30q, %d, want %.30q, %d", c.s, c.link, c.target, got, bad, c.want, c.bad)
		}
	}
}

func TestRenumber(t *testing.T) {
	full := strings.Repeat("x", api.MaxString-5)
	cases := []struct {
		s        string
		from, to []int
		want     string
		bad      api.Errno
	}{
		{"", nil, nil, "", api.OK},
		{"a ((1)) **b** [[c]]", nil, nil, "a ((1)) **b** [[c]]", api.OK},
		{"((1)) ((2)) ((3))", []int{1, 2}, []int{2, 1}, "((2)) ((1)) ((3))", api.OK},
		{"((1))((1))", []int{1}, []int{1000000}, "((1000000))((1000000))", api.OK},
		{"((1000000))", []int{1000000}, []int{1}, "((1))", api.OK},
		{"((5))", []int{5, 5}, []int{6, 7}, "((6))", api.OK},
		{"((5))", []int{5, 6}, []int{6, 7}, "((6))", api.OK},
		{"((0)) a #b", []int{0, -1}, []int{7, 7}, "((0)) a #b", api.OK},
		{"`((1))` \\((1)) **((1))** [[a|((1))]]", []int{1}, []int{2}, "`((1))` \\((1)) **((2))** [[a|((1))]]", api.OK},
		{"((1))", []int{1}, nil, "", api.ErrForm},
		{"((1))", nil, []int{0}, "", api.ErrForm},
		{"((1))", []int{1}, []int{0}, "", api.ErrRange},
		{"((1))", []int{1}, []int{-1}, "", api.ErrRange},
		{"((1))", []int{1}, []int{api.MaxId + 1}, "", api.ErrRange},
		{"", []int{1, 1}, []int{1, 0}, "", api.ErrRange},
		{full + "((1))", []int{1}, []int{9}, full + "((9))", api.OK},
		{full + "((1))", []int{1}, []int{10}, "", api.ErrLarge},
		{full + "((10))", []int{10}, []int{9}, full + "((9))", api.OK},
		{full + "((10))", nil, nil, "", api.ErrLarge},
		{full + "((10))", []int{10}, []int{0}, "", api.ErrRange},
		{full + "((10))", []int{10}, nil, "", api.ErrForm},
	}
	for _, c := range cases {
		if got, bad := text.Renumber(c.s, c.from, c.to); got != c.want || bad != c.bad {
			t.Errorf("Renumber(%.30q, %d, %d) = %.30q, %d, want %.30q, %d", c.s, c.from, c.to, got, bad, c.want, c.bad)
		}
	}
}

// P1.6

func TestUnmarked(t *testing.T) {
	cases := [][2]string{
		{"", ""},
		{"**a** *b **", "a *b **"},
		{"****", ""},
		{"***", "***"},
		{"`**`\\*[[a|**]]**#t**((1))", "`**`\\*[[a|**]]#t((1))"},
	}
	for _, c := range cases {
		if got := text.Unmarked(c[0]); got != c[1] {
			t.Errorf("Unmarked(%q) = %q, want %q", c[0], got, c[1])
		}
	}
}

func TestParts(t *testing.T) {
	cases := []struct {
		s    string
		want []string
	}{
		{"", nil},
		{"a", []string{"a"}},
		{"[[a]]", []string{"[[a]]"}},
		{"a [[b]]#c", []string{"a ", "[[b]]", "#c"}},
		{"[[a]][[b|c]]((1)) ((2))", []string{"[[a]]", "[[b|c]]", "((1))", " ", "((2))"}},
		{"a**b**\\*`c`", []string{"a**b**\\*`c`"}},
		{"**#t**, `x`((7)).", []string{"**", "#t", "**, `x`", "((7))", "."}},
	}
	for _, c := range cases {
		if got := text.Parts(c.s); !slices.Equal(got, c.want) {
			t.Errorf("Parts(%q) = %q, want %q", c.s, got, c.want)
		}
	}
}

// P1.9

func TestExcerpt(t *testing.T) {
	cases := []struct {
		s    string
		most int
		want string
	}{
		{"hello there", 0, ""},
		{"hello there", -1, ""},
		{"hello there", 3, "hel"},
		{"hello there", 5, "hello"},
		{"hello there", 6, "hello"},
		{"hello there", 10, "hello"},
		{"hello there", 11, "hello there"},
		{"hello there", 99, "hello there"},
		{"**hello** there you", 13, "hello there"},
		{"  a  b  ", 1, "a"},
		{"  a  b  ", 2, "a"},
		{"  a  b  ", 3, "a"},
		{"  a  b  ", 4, "a  b"},
		{"  a  b  ", 5, "a  b"},
		{"a b c", 4, "a b"},
		{"a\tb c", 3, "a\tb"},
		{"a\tbc", 2, "a\t"},
		{"[[T|shown]] x", 5, "shown"},
		{"` ` ab", 2, "ab"},
		{"** a **", 9, "a"},
		{"   ", 2, ""},
		{"", 1, ""},
		{"éa", 1, "\xc3"},
	}
	for _, c := range cases {
		if got := text.Excerpt(c.s, c.most); got != c.want {
			t.Errorf("Excerpt(%q, %d) = %q, want %q", c.s, c.most, got, c.want)
		}
	}
}
