package link_test

import (
	"slices"
	"strings"
	"testing"

	"florilegium/api"
	"florilegium/link"
	"florilegium/tree"
)

// P4.5

// wantChange tells where a changed base is another one than wanted.
func wantChange(t *testing.T, name string, got []api.Block, ids []int, bad api.Errno, wanted []api.Block, wantedIds []int) {
	t.Helper()
	want(t, name, got, wanted, bad, api.OK)
	want(t, name, ids, wantedIds, bad, api.OK)
}

func TestRename(t *testing.T) {
	l, ids, bad := link.Rename(example(), 3, "Hounds")
	wantChange(t, "example", l, ids, bad, base("1 Cats", "  2 see [[Hounds]], a dog's life", "3 Hounds ; alias:: \"dog\""), []int{2, 3})

	// Links by an alias, and links to others, stay; properties go along.
	pets := base(
		"7 Dogs ; alias:: [\"hound\", \"barker\"] ; l:: [[DOGS]]",
		"  3 [[dogs]][[DOGS|x|y]] [[Hound]] `[[dogs]]` [[dogs|dogs]] dogs #dogs",
		"5 [[dogs]] ; a:: [[Hound]] ; b:: [[[hound]], [[dogs]], \"dogs\", [[Dogs]], 3] ; c:: \"[[dogs]]\"",
		"  9 [[Cats]]",
	)
	l, ids, bad = link.Rename(pets, 7, "The  (old)")
	wantChange(t, "pets", l, ids, bad, base(
		"7 The  (old) ; alias:: [\"hound\", \"barker\"] ; l:: [[The  (old)]]",
		"  3 [[The  (old)]][[The  (old)|x|y]] [[Hound]] `[[dogs]]` [[The  (old)|dogs]] dogs #dogs",
		"5 [[dogs]] ; a:: [[Hound]] ; b:: [[[hound]], [[The  (old)]], \"dogs\", [[The  (old)]], 3] ; c:: \"[[dogs]]\"",
		"  9 [[Cats]]",
	), []int{3, 5, 7})

	// The same title, or only other letters: those change that had it otherwise.
	l, ids, bad = link.Rename(pets, 7, "Dogs")
	wantChange(t, "same", l, ids, bad, base(
		"7 Dogs ; alias:: [\"hound\", \"barker\"] ; l:: [[Dogs]]",
		"  3 [[Dogs]][[Dogs|x|y]] [[Hound]] `[[dogs]]` [[Dogs|dogs]] dogs #dogs",
		"5 [[dogs]] ; a:: [[Hound]] ; b:: [[[hound]], [[Dogs]], \"dogs\", [[Dogs]], 3] ; c:: \"[[dogs]]\"",
		"  9 [[Cats]]",
	), []int{3, 5, 7})
	l, ids, bad = link.Rename(base("1 a", "  2 [[a]] ; b:: [[a]]"), 1, "a")
	wantChange(t, "no change", l, ids, bad, base("1 a", "  2 [[a]] ; b:: [[a]]"), nil)
	l, ids, bad = link.Rename(base("1 a", "  2 [[a]] ; b:: [[A]]"), 1, "A")
	wantChange(t, "other letters", l, ids, bad, base("1 A", "  2 [[A]] ; b:: [[A]]"), []int{1, 2})
	l, ids, bad = link.Rename(base("1 a", "  2 [[A]]"), 1, "A")
	wantChange(t, "the page alone", l, ids, bad, base("1 A", "  2 [[A]]"), []int{1})

	// Of two pages with one title the links lead to that with the least id.
	twins := base("4 a", "  1 [[A]]", "2 A ; alias:: \"b\"")
	l, ids, bad = link.Rename(twins, 4, "c")
	wantChange(t, "the greater one", l, ids, bad, base("4 c", "  1 [[A]]", "2 A ; alias:: \"b\""), []int{4})
	l, ids, bad = link.Rename(twins, 2, "c")
	wantChange(t, "the lesser one", l, ids, bad, base("4 a", "  1 [[c]]", "2 c ; alias:: \"b\""), []int{1, 2})

	// A link that leads by the title and by an alias does so not by the alias only.
	l, ids, bad = link.Rename(base("1 a ; alias:: \"A\"", "  2 [[a]]"), 1, "c")
	wantChange(t, "both", l, ids, bad, base("1 c ; alias:: \"A\"", "  2 [[c]]"), []int{1, 2})

	// A page whose title was no target.
	l, ids, bad = link.Rename(base("1 ", "  2 [[a|b]]"), 1, "x")
	wantChange(t, "empty title", l, ids, bad, base("1 x", "  2 [[a|b]]"), []int{1})
	l, ids, bad = link.Rename(base("1 a`b", "2 b ; l:: [[A`B]]"), 1, "x")
	wantChange(t, "led to by a property", l, ids, bad, base("1 x", "2 b ; l:: [[x]]"), []int{1, 2})
}

func TestRenameErrors(t *testing.T) {
	l := base(
		"1 Cats ; alias:: [\"tom\", \"kit\"]",
		"  2 [[Birds]] [[gone  away]]",
		"3 Dogs ; alias:: \"dog\" ; see:: [[Fish]]",
		"4 dogs ; alias:: [[wasps]] ; more:: [[[Ants]], \"Bees\"]",
	)
	for _, c := range []struct {
		page  int
		title string
		want  api.Errno
	}{
		{0, "x", api.ErrNone},
		{2, "x", api.ErrNone},
		{5, "x", api.ErrNone},
		{-1, "", api.ErrNone},
		{3, "", api.ErrName},
		{3, " x", api.ErrName},
		{3, "x ", api.ErrName},
		{3, "a[", api.ErrName},
		{3, "a]", api.ErrName},
		{3, "a|b", api.ErrName},
		{3, "a`b", api.ErrName},
		{3, "a\x00", api.ErrName},
		{3, "a\x1f", api.ErrName},
		{3, "a\x7f", api.ErrName},
		{3, "\x7fa", api.ErrName},
		{3, strings.Repeat("x", 101), api.ErrName},
		{3, strings.Repeat("x", 100), api.OK},
		{3, "é\xff\\#(*", api.OK},
		{3, "CATS", api.ErrTwice},
		{3, "Tom", api.ErrTwice},
		{1, "Tom", api.ErrTwice},
		{1, "KIT", api.ErrTwice},
		{3, "dog", api.ErrTwice},
		{1, "dogs", api.ErrTwice},
		{3, "Dogs", api.ErrTwice}, // another page has it, too
		{4, "dogs", api.ErrTwice},
		{3, "birds", api.ErrTwice},
		{3, "Gone Away", api.ErrTwice},
		{3, "fish", api.ErrTwice},
		{1, "ANTS", api.ErrTwice},
		{1, "wasps", api.ErrTwice},
		{1, "bees", api.OK},
		{1, "cats", api.OK},
		{1, "Cats 2", api.OK},
		{1, "tom cat", api.OK},
	} {
		got, ids, bad := link.Rename(l, c.page, c.title)
		if bad != c.want || bad != api.OK && len(got)+len(ids) > 0 {
			t.Errorf("Rename(%d, %.40q) = %v, %v, %d, want %d", c.page, c.title, got, ids, bad, c.want)
		}
	}
	_, _, bad := link.Rename(base("1 a ; alias:: \"A\""), 1, "A")
	want(t, "an alias of its own", 0, 0, bad, api.ErrTwice)
}

// long gives a text of a length that begins with s.
func long(s string, length int) string {
	return s + strings.Repeat(".", length-len(s))
}

func TestRenameOfLongTexts(t *testing.T) {
	const links = "[[big  a]] [[big a]]"
	for length, wanted := range map[int]api.Errno{2000: api.ErrLarge, 1994: api.ErrLarge, 1993: api.OK} {
		l := with(base("1 Big a", "  2"), 2, long(links, length))
		got, ids, bad := link.Rename(l, 1, "the big a")
		if wanted != api.OK {
			want(t, "too long", got, nil, bad, wanted)
			want(t, "too long", ids, nil, bad, wanted)
			continue
		}
		wantChange(t, "long", got, ids, bad, with(with(l, 1, "the big a"), 2, long("[[the big a]] [[the big a]]", 2000)), []int{1, 2})
	}
	// One link becomes longer, and the other one shorter.
	l := with(base("1 Big a", "  2"), 2, long("[[big a]] [[big  a]] [[big   a]]", 2000))
	got, ids, bad := link.Rename(l, 1, "big: a")
	wantChange(t, "longer and shorter", got, ids, bad, with(with(l, 1, "big: a"), 2, long("[[big: a]] [[big: a]] [[big: a]]", 2000)), []int{1, 2})
}

// What follows.
func TestAfterRenameAllLeadsToWhereItLed(t *testing.T) {
	var d dice
	renamed, back := 0, 0
	for range 4000 {
		l := d.base(10)
		if len(l[0].Kids) == 0 {
			continue
		}
		page := one(&d, l[0].Kids...)
		next, ids, bad := link.Rename(l, page, one(&d, "new", "cats", "DOG", "big dog", "owl"))
		if bad != api.OK {
			continue
		}
		before, after := must(link.Links(l)), must(link.Links(next))
		for i := range before {
			if before[i].Block != after[i].Block || before[i].Prop != after[i].Prop || before[i].Page != after[i].Page {
				t.Fatal(before[i], after[i])
			}
		}
		for i, b := range l {
			if slices.Contains(ids, b.Id) == tree.Same(l[i:i+1], next[i:i+1]) {
				t.Fatal(ids, b, next[i])
			}
		}
		renamed++
		if was, _ := tree.Get(l, page); comesBack(l, page, was.Text) {
			again, _, bad := link.Rename(next, page, was.Text)
			want(t, "back", again, l, bad, api.OK)
			back++
		}
	}
	if renamed < 500 || back < 100 {
		t.Error(renamed, back)
	}
}

// comesBack asks whether the links to a page by its title have it as it is written, no other page has it, and none as an alias.
func comesBack(l []api.Block, page int, title string) bool {
	if strings.ContainsAny(title, "[]|`") || title != strings.Trim(title, " ") || title == "" {
		return false
	}
	for _, k := range must(link.Links(l)) {
		if link.FoldTitle(k.Title) == link.FoldTitle(title) && k.Title != title {
			return false
		}
	}
	for _, b := range l {
		if b.Parent != 0 || b.Id == 0 {
			continue
		}
		for i, name := range must(link.Names(l, b.Id)) {
			if link.FoldTitle(name) == link.FoldTitle(title) && (i > 0 || b.Id != page) {
				return false
			}
		}
		for _, p := range b.Props {
			if p.Name == "alias" && slices.ContainsFunc(append(p.Value.Items, p.Value), func(v api.Value) bool { return link.FoldTitle(v.Text) == link.FoldTitle(title) }) {
				return false
			}
		}
	}
	return true
}

func TestRenameTag(t *testing.T) {
	pets := base(
		"1 #pet ; x:: \"#pet\" ; y:: [[#pet]]",
		"  7 a #pet, **#pet/cat** #pet #pets #my/pet #Pet",
		"    3 #pet-#pet/dog/old# `#pet` [[#pet]] \\#pet ##pet",
		"2 b",
		"  4 #cat",
	)
	l, ids, bad := link.RenameTag(pets, "pet", "animal/pet")
	wantChange(t, "pet", l, ids, bad, with(with(pets, 7, "a #animal/pet, **#animal/pet/cat** #animal/pet #pets #my/pet #Pet"), 3, "#pet-#animal/pet/dog/old# `#pet` [[#pet]] \\#pet ##pet"), []int{3, 7})
	l, ids, bad = link.RenameTag(pets, "pet/dog", "é")
	wantChange(t, "pet/dog", l, ids, bad, with(pets, 3, "#pet-#é/old# `#pet` [[#pet]] \\#pet ##pet"), []int{3})
	l, ids, bad = link.RenameTag(pets, "pet/dog", "pet/hound/dog")
	wantChange(t, "below what it was", l, ids, bad, with(pets, 3, "#pet-#pet/hound/dog/old# `#pet` [[#pet]] \\#pet ##pet"), []int{3})
	l, ids, bad = link.RenameTag(pets, "none", "any")
	wantChange(t, "none", l, ids, bad, pets, nil)
	l, ids, bad = link.RenameTag(pets, "none/other", "none")
	wantChange(t, "none, to above", l, ids, bad, pets, nil)
	l, ids, bad = link.RenameTag(base("1 a", "  2 #a/b/a/b #a//b", "  3 #1/a"), "a", "1/b")
	wantChange(t, "at the beginning alone", l, ids, bad, base("1 a", "  2 #1/b/b/a/b #1/b//b", "  3 #1/a"), []int{2})
}

func TestRenameTagErrors(t *testing.T) {
	l := base("1 #title", "  2 #pet/cat #pet", "  3 #old/pet #pets/x #a//b")
	for _, no := range noTags() {
		for _, c := range [][2]string{{no, "new"}, {"pet", no}, {no, no}, {no, "pet"}} {
			got, ids, bad := link.RenameTag(l, c[0], c[1])
			want(t, no, got, nil, bad, api.ErrName)
			want(t, no, ids, nil, bad, api.ErrName)
		}
	}
	for _, c := range []struct {
		from, to string
		want     api.Errno
	}{
		{"pet", "pet", api.ErrTwice},
		{"pet", "pet/x", api.ErrTwice},
		{"none", "none/x", api.ErrTwice},
		{"none", "none", api.ErrTwice},
		{"pet", "old", api.ErrTwice},
		{"pet", "old/pet", api.ErrTwice},
		{"pet", "old/pets", api.OK},
		{"pet", "pets", api.ErrTwice},
		{"pet", "a", api.ErrTwice},
		{"pet/cat", "pet", api.ErrTwice},
		{"old/pet", "pet", api.ErrTwice},
		{"old/pet", "Pet", api.OK},
		{"old/pet", "pe", api.OK},
		{"old/pet", "petx", api.OK},
		{"old/pet", "title", api.OK},
	} {
		got, _, bad := link.RenameTag(l, c.from, c.to)
		if bad != c.want || bad != api.OK && got != nil {
			t.Error(c, got, bad)
		}
	}
}

func TestRenameTagOfLongTexts(t *testing.T) {
	l := base("1 a", "  2 #t/"+strings.Repeat("b", 48), "  3 #t")
	for length, wanted := range map[int]api.Errno{51: api.OK, 52: api.ErrLarge, 100: api.ErrLarge} {
		to := strings.Repeat("c", length)
		got, ids, bad := link.RenameTag(l, "t", to)
		if wanted == api.OK {
			wantChange(t, "long tag", got, ids, bad, base("1 a", "  2 #"+to+"/"+strings.Repeat("b", 48), "  3 #"+to), []int{2, 3})
		} else {
			want(t, "long tag", got, nil, bad, wanted)
		}
	}
	for length, wanted := range map[int]api.Errno{1996: api.OK, 1997: api.ErrLarge, 2000: api.ErrLarge} {
		l := with(base("1 a", "  2"), 2, long("#t #t", length))
		got, ids, bad := link.RenameTag(l, "t", "t-u")
		if wanted == api.OK {
			wantChange(t, "long text", got, ids, bad, with(l, 2, long("#t-u #t-u", 2000)), []int{2})
		} else {
			want(t, "long text", got, nil, bad, wanted)
		}
	}
	l = base("1 a", "  2 #x/"+strings.Repeat("b", 98))
	got, ids, bad := link.RenameTag(l, "t", "u")
	wantChange(t, "long tag that stays", got, ids, bad, l, nil)
}

func TestRetarget(t *testing.T) {
	l, ids, bad := link.Retarget(zoo(), 9, 2)
	wanted := with(zoo(), 4, "[[Cats|x]] and ((7)), #pet/dog #pet/dog")
	wanted[9].Props[0].Value.Items[2].Text = "Cats"
	wantChange(t, "zoo", l, ids, bad, wanted, []int{4, 12})
	l, ids, bad = link.Retarget(zoo(), 2, 9)
	wanted = with(zoo(), 12, "[[Dogs]] [[Dogs]] ((99)) ((98)) ((99))")
	wanted[5].Props[0].Value.Text = "Dogs"
	wanted[8].Props[0].Value.Items[2].Text = "Dogs"
	wantChange(t, "zoo", l, ids, bad, wanted, []int{6, 9, 12})
	l, ids, bad = link.Retarget(zoo(), 5, 2)
	wantChange(t, "nothing leads to it", l, ids, bad, zoo(), nil)
	l, ids, bad = link.Retarget(base("1 a ; alias:: \"z\"", "2 B  b ; l:: [[a]]", "  3 [[A]] [[b b]] [[Z|z]] [[c]] `[[a]]` #a", "4 [[a]] ; alias:: \"c\" ; m:: [\"a\", [[z]]]"), 1, 2)
	wantChange(t, "as it is written", l, ids, bad, base("1 a ; alias:: \"z\"", "2 B  b ; l:: [[B  b]]", "  3 [[B  b]] [[b b]] [[B  b|z]] [[c]] `[[a]]` #a", "4 [[a]] ; alias:: \"c\" ; m:: [\"a\", [[B  b]]]"), []int{2, 3, 4})
}

func TestRetargetErrors(t *testing.T) {
	l := with(base("1 a", "  2 [[a]]", "3 b", "4 A", "5 x[y", "6", "7 c ; alias:: \"x y\"", "8 `", "10 |", "12 ]", "13 C"), 6, " b b ")
	for _, c := range []struct {
		from, to int
		want     api.Errno
	}{
		{1, 3, api.OK}, {3, 1, api.OK}, {4, 3, api.OK}, {13, 7, api.OK}, {1, 7, api.OK}, {6, 7, api.OK},
		{0, 3, api.ErrNone}, {2, 3, api.ErrNone}, {9, 3, api.ErrNone}, {1, 0, api.ErrNone}, {1, 2, api.ErrNone}, {1, 9, api.ErrNone},
		{-1, -1, api.ErrNone}, {2, 2, api.ErrNone}, {2, 5, api.ErrNone}, {1 << 30, 1 << 30, api.ErrNone},
		{1, 1, api.ErrTwice}, {4, 4, api.ErrTwice}, {5, 5, api.ErrTwice},
		{1, 4, api.ErrName}, {7, 13, api.ErrName}, // a page with a lesser id has this title
		{1, 5, api.ErrName}, {1, 6, api.ErrName}, {1, 8, api.ErrName}, {1, 10, api.ErrName}, {1, 12, api.ErrName}, {3, 5, api.ErrName},
	} {
		got, ids, bad := link.Retarget(l, c.from, c.to)
		if bad != c.want || bad != api.OK && len(got)+len(ids) > 0 {
			t.Error(c, got, ids, bad)
		}
	}
	for size, wanted := range map[int]api.Errno{100: api.OK, 101: api.ErrName, 0: api.ErrName} {
		l := with(base("1 a", "3 b"), 3, strings.Repeat("b", size))
		_, _, bad := link.Retarget(l, 1, 3)
		want(t, "length", 0, 0, bad, wanted)
	}
}

func TestRetargetOfLongTexts(t *testing.T) {
	for length, wanted := range map[int]api.Errno{1996: api.OK, 1997: api.ErrLarge, 2000: api.ErrLarge} {
		l := with(base("1 a", "  2", "3 abc"), 2, long("[[a]] [[a]]", length))
		got, ids, bad := link.Retarget(l, 1, 3)
		if wanted == api.OK {
			wantChange(t, "long", got, ids, bad, with(l, 2, long("[[abc]] [[abc]]", 2000)), []int{2})
		} else {
			want(t, "long", got, nil, bad, wanted)
			want(t, "long", ids, nil, bad, wanted)
		}
	}
}
