package link_test

import (
	"strings"
	"testing"

	"florilegium/api"
	"florilegium/link"
)

// P4.4

func TestTags(t *testing.T) {
	got, bad := link.Tags(zoo())
	want(t, "zoo", got, []link.Tag{{"animal", 1, 1}, {"pet", 0, 2}, {"pet/cat", 1, 1}, {"pet/dog", 1, 1}}, bad, api.OK)
	got, bad = link.Tags(base("1 #t", "  2 x#t `#t` [[#t]] \\#t ##t #1 #/t #t/"))
	want(t, "no tags", got, nil, bad, api.OK)
	got, bad = link.Tags([]api.Block{{}})
	want(t, "root alone", got, nil, bad, api.OK)
	got, bad = link.Tags(base("1 a", "  2 #a/b/c #a #a/b/d", "  3 #a-b #A #aa #é **#a/b**", "  4 #a/b/c ; x:: \"#y\" ; y:: [[#z]]"))
	want(t, "by bytes", got, []link.Tag{
		{"A", 1, 1}, {"a", 1, 3}, {"a-b", 1, 1}, {"a/b", 1, 3}, {"a/b/c", 2, 2}, {"a/b/d", 1, 1}, {"aa", 1, 1}, {"é", 1, 1},
	}, bad, api.OK)
	got, bad = link.Tags(base("1 a", "  2 #1/a#", "  3 #b//c", "  4 #b///d"))
	want(t, "beginnings that are no tags", got, []link.Tag{
		{"1", 0, 1}, {"1/a", 1, 1}, {"b", 0, 2}, {"b/", 0, 2}, {"b//", 0, 1}, {"b///d", 1, 1}, {"b//c", 1, 1},
	}, bad, api.OK)
}

func TestTagged(t *testing.T) {
	l := base("7 #pet", "  9 #pet/cat", "    2 x #pet, #pet", "  4 #pets #pe #Pet #x/pet", "3 a", "  5 #pet/cat/tom #pet/dog", "  6 #1/a #b//c")
	for tag, wanted := range map[string][]int{
		"pet": {2, 5, 9}, "pet/cat": {5, 9}, "pet/cat/tom": {5}, "pe": {4}, "p": nil, "Pet": {4}, "pets": {4}, "x": {4}, "x/pet": {4},
		"pet/c": nil, "1/a": {6}, "b": {6}, "b//c": {6}, "é": nil, strings.Repeat("a", 100): nil,
	} {
		got, bad := link.Tagged(l, tag)
		want(t, tag, got, wanted, bad, api.OK)
	}
	for _, tag := range noTags() {
		got, bad := link.Tagged(l, tag)
		want(t, tag, got, nil, bad, api.ErrName)
	}
}

// noTags are strings that are no tags.
func noTags() []string {
	return []string{"", "1", "1_-2", "/", "/a", "a/", "b/", "a b", "a ", " a", "#a", "a#a", "a #a", "a,", "a.b", "[[a]]", "a\x00", "a\n", "`a`", strings.Repeat("a", 101), strings.Repeat("#a ", 5000)}
}
