package link_test

import (
	"strings"
	"testing"

	"florilegium/api"
	"florilegium/link"
)

// P4.1

func TestFoldTitle(t *testing.T) {
	for s, wanted := range map[string]string{
		"":                         "",
		"a":                        "a",
		"AZaz@[`{":                 "azaz@[`{",
		"  Big   CATS ":            "big cats",
		" ":                        "",
		"    ":                     "",
		"a ":                       "a",
		" a":                       "a",
		"a  b   c":                 "a b c",
		"a\tB\n\nC":                "a\tb\n\nc",
		"\t A \t":                  "\t a \t",
		"ÀÉ Ω":                     "ÀÉ Ω",
		"\xff\xc3 \x80X\x00":       "\xff\xc3 \x80x\x00",
		"\u00a0a\u2003":            "\u00a0a\u2003",
		"K\u212a":                  "k\u212a", // the Kelvin sign is no letter from A to Z
		"09":                       "09",
		strings.Repeat(" A", 5000): strings.Repeat("a ", 4999) + "a",
	} {
		if got := link.FoldTitle(s); got != wanted {
			t.Errorf("FoldTitle(%.40q) = %.40q, want %.40q", s, got, wanted)
		}
	}
}

func TestPage(t *testing.T) {
	for _, c := range []struct {
		title string
		page  int
	}{
		{"Dogs", 9},
		{" dOGS  ", 9},
		{"hound", 9},
		{"a dog", 9},
		{"A     Dog", 9},
		{"adog", 0},
		{"cats", 2},
		{"tom", 2},  // also an alias of 3
		{"OWLS", 3}, // also the title of 5
		{"[[Dogs]] #pet ((4)) ((97))", 6},
		{"bird", 0}, // block 8 is no page
		{"nowhere", 0},
		{"5", 0},
		{"", 0},
		{"a dog's life", 0},
		{strings.Repeat("x", 5000), 0},
	} {
		got, bad := link.Page(zoo(), c.title)
		wanted := api.OK
		if c.page == 0 {
			wanted = api.ErrNone
		}
		want(t, c.title, got, c.page, bad, wanted)
	}
}

func TestPageOfTitlesBeforeAliases(t *testing.T) {
	l := base("1 a ; alias:: \"X\"", "2 x", "3 b ; alias:: [\"y\", \"z\"]", "4 c ; alias:: [\"Y\"]", "7 X ; alias:: \"a\"")
	for title, page := range map[string]int{"x": 2, "a": 1, "Y": 3, "z": 3} {
		got, bad := link.Page(l, title)
		want(t, title, got, page, bad, api.OK)
	}
	got, bad := link.Page(base("1 a", "4", "2 b"), "   ")
	want(t, "empty title", got, 4, bad, api.OK)
	got, bad = link.Page(base("1 a ; alias:: \"\"", "2 b"), "")
	want(t, "empty alias", got, 1, bad, api.OK)
	got, bad = link.Page(base("1 a ; other:: \"b\""), "b")
	want(t, "another property", got, 0, bad, api.ErrNone)
}

func TestNames(t *testing.T) {
	for _, c := range []struct {
		line string
		want []string
	}{
		{"1 Dogs", []string{"Dogs"}},
		{"1 Dogs ; alias:: \"dog\"", []string{"Dogs", "dog"}},
		{"1 Dogs ; alias:: \" DOGS\"", []string{"Dogs"}},
		{"1 Dogs ; alias:: [\"z\", \"B  b\", \"a\", \" b B\", \"Z\"]", []string{"Dogs", "z", "B  b", "a"}},
		{"1 Dogs ; alias:: [\"a\", [[b]], 2001-01-01, 7, yes, \"c\"]", []string{"Dogs", "a", "c"}},
		{"1 Dogs ; alias:: []", []string{"Dogs"}},
		{"1 Dogs ; alias:: [[dog]]", []string{"Dogs"}},
		{"1 Dogs ; alias:: 5", []string{"Dogs"}},
		{"1 Dogs ; aliases:: \"dog\" ; b-alias:: \"dog\"", []string{"Dogs"}},
		{"1  ; alias:: [\"\", \" \", \"x\"]", []string{"", "x"}},
		{"1   D  ; alias:: [\"\"]", []string{"  D ", ""}},
	} {
		got, bad := link.Names(base(c.line), 1)
		want(t, c.line, got, c.want, bad, api.OK)
	}
	for _, page := range []int{-1, 0, 1, 4, 12, 13, api.MaxId, api.MaxId + 1} {
		got, bad := link.Names(zoo(), page)
		want(t, "no page", got, nil, bad, api.ErrNone)
	}
}
