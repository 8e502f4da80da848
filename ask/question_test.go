package ask_test

import (
	"fmt"
	"math"
	"strings"
	"testing"

	"florilegium/api"
	"florilegium/ask"
)

// P5.4

func sorts(names ...string) []ask.Sort {
	var l []ask.Sort
	for i, name := range names {
		l = append(l, ask.Sort{By: name, Down: i%2 == 1})
	}
	return l
}

func TestCheckQuestion(t *testing.T) {
	all, wrong := kids(ask.And), kids(ask.Not)
	for name, c := range map[string]struct {
		q      ask.Question
		wanted api.Errno
	}{
		"least":                         {ask.Question{Where: all}, api.OK},
		"empty list":                    {ask.Question{Where: all, Sorts: []ask.Sort{}}, api.OK},
		"full":                          {ask.Question{all, sorts("@id", "@text", "@depth", "a-9", "a"), "a", api.MaxBlocks}, api.OK},
		"the longest names":             {ask.Question{all, sorts(strings.Repeat("a", 20)), strings.Repeat("a", 20), 1}, api.OK},
		"no condition":                  {ask.Question{}, api.ErrKind},
		"wrong condition before all":    {ask.Question{wrong, sorts("", "", "", "", "", ""), "A", -1}, api.ErrForm},
		"deep condition before all":     {ask.Question{within(ask.Not, 40, wrong), sorts(""), "A", -1}, api.ErrDeep},
		"six sorts before their errors": {ask.Question{all, sorts("", "", "", "", "", ""), "A", -1}, api.ErrLarge},
		"six right sorts":               {ask.Question{all, sorts("a", "b", "c", "d", "e", "f"), "", 0}, api.ErrLarge},
		"no By":                         {ask.Question{all, sorts(""), "A", -1}, api.ErrName},
		"By that is no name":            {ask.Question{all, sorts("a", "@"), "a", 0}, api.ErrName},
		"By in other letters":           {ask.Question{all, sorts("@Id"), "a", 0}, api.ErrName},
		"By with more":                  {ask.Question{all, sorts("@id2"), "a", 0}, api.ErrName},
		"By without @":                  {ask.Question{all, sorts("id", "text", "depth"), "a", 0}, api.OK},
		"too long By":                   {ask.Question{all, sorts(strings.Repeat("a", 21)), "a", 0}, api.ErrName},
		"By with a space":               {ask.Question{all, sorts("a b"), "a", 0}, api.ErrName},
		"By twice":                      {ask.Question{all, sorts("a", "a"), "A", -1}, api.ErrTwice},
		"By twice, also both Down":      {ask.Question{all, sorts("b", "a", "c", "a"), "A", -1}, api.ErrTwice},
		"@id twice":                     {ask.Question{all, sorts("@id", "@text", "@id"), "A", -1}, api.ErrTwice},
		"twice before a wrong name":     {ask.Question{all, sorts("a", "a", "A"), "a", 0}, api.ErrTwice},
		"a wrong name before twice":     {ask.Question{all, sorts("a", "A", "a"), "a", 0}, api.ErrName},
		"wrong names twice":             {ask.Question{all, sorts("A", "A"), "a", 0}, api.ErrName},
		"Group":                         {ask.Question{all, sorts("a"), "A", -1}, api.ErrName},
		"Group by what is no property":  {ask.Question{all, nil, "@id", 0}, api.ErrName},
		"Group with a space":            {ask.Question{all, nil, " ", 0}, api.ErrName},
		"Most below 0":                  {ask.Question{all, sorts("a"), "", -1}, api.ErrRange},
		"Most above all":                {ask.Question{all, nil, "a", api.MaxBlocks + 1}, api.ErrRange},
		"the least Most":                {ask.Question{all, nil, "a", math.MinInt}, api.ErrRange},
		"the greatest Most":             {ask.Question{all, nil, "a", math.MaxInt}, api.ErrRange},
	} {
		wantError(t, name, ask.CheckQuestion(c.q), c.wanted)
		s, bad := ask.QuestionText(c.q)
		wantError(t, name, bad, c.wanted)
		if bad != api.OK && s != "" {
			t.Error(name, s)
		}
		groups, bad := ask.Ask(example(), c.q)
		wantError(t, name, bad, c.wanted)
		if bad != api.OK && len(groups) > 0 {
			t.Error(name, groups)
		}
		_, bad = ask.Ask(nil, c.q)
		wantError(t, name, bad, api.ErrForm)
	}
}

func TestQuestionText(t *testing.T) {
	for s, q := range map[string]ask.Question{
		"where is-page\n":                         {Where: page()},
		"where is-page\nsort a up\n":              {Where: page(), Sorts: sorts("a")},
		"where is-page\nsort a up\nsort b down\n": {Where: page(), Sorts: sorts("a", "b")},
		"where is-page\nsort @id up\nsort @text down\nsort @depth up\nsort up down\nsort down up\n": {Where: page(), Sorts: sorts("@id", "@text", "@depth", "up", "down")},
		"where is-page\ngroup a\n":         {Where: page(), Group: "a"},
		"where is-page\nmost 1\n":          {Where: page(), Most: 1},
		"where is-page\ngroup a\nmost 7\n": {Where: page(), Group: "a", Most: 7},
		"where all(says \"where \\\" \", .a = \"sort\")\nsort sort down\ngroup group\nmost 2000\n": {
			kids(ask.And, words(ask.Says, `where " `), value(ask.Equal, "a", str("sort"))), []ask.Sort{{"sort", true}}, "group", 2000,
		},
	} {
		got, bad := ask.QuestionText(q)
		want(t, s, got, s, bad, api.OK)
		read, bad := ask.ReadQuestion(s)
		want(t, s, read, q, bad, api.OK)
	}
}

func TestReadQuestionErrors(t *testing.T) {
	const all = "where all()\n"
	for s, wanted := range map[string]api.Errno{
		"": api.ErrSyntax, "\n": api.ErrSyntax, "where all()": api.ErrSyntax, "where  all()\n": api.ErrSyntax, "where\n": api.ErrSyntax, "where \n": api.ErrSyntax, "where x\n": api.ErrSyntax,
		" where all()\n": api.ErrSyntax, "Where all()\n": api.ErrSyntax, "all()\n": api.ErrSyntax, "where all() \n": api.ErrSyntax, "where all()\r\n": api.ErrSyntax, "where says \"a\nb\"\n": api.ErrSyntax,
		"\n" + all: api.ErrSyntax, all + "\n": api.ErrSyntax, all + all: api.ErrSyntax, all + " ": api.ErrSyntax, all + "x\n": api.ErrSyntax, all + "\x00": api.ErrSyntax,
		"sort a up\n": api.ErrSyntax, "sort a up\n" + all: api.ErrSyntax, "group a\n" + all: api.ErrSyntax, "most 1\n": api.ErrSyntax,
		all + "sort\n": api.ErrSyntax, all + "sort \n": api.ErrSyntax, all + "sort up\n": api.ErrSyntax, all + "sort  up\n": api.ErrSyntax, all + "sort  down\n": api.ErrSyntax, all + "sort a\n": api.ErrSyntax,
		all + "sort a \n": api.ErrSyntax, all + "sort a Up\n": api.ErrSyntax, all + "sort a up \n": api.ErrSyntax, all + "sort a up": api.ErrSyntax, all + "sorts a up\n": api.ErrSyntax, all + "sort aup\n": api.ErrSyntax,
		all + "sort a down": api.ErrSyntax, all + "sort down\n": api.ErrSyntax, all + "sort a left\n": api.ErrSyntax, all + "sort a up\n\n": api.ErrSyntax, all + "sort a up\nsort b\n": api.ErrSyntax,
		all + "group\n": api.ErrSyntax, all + "group \n": api.ErrSyntax, all + "group a": api.ErrSyntax, all + "group a\ngroup a\n": api.ErrSyntax, all + "group a\nsort a up\n": api.ErrSyntax, all + "group \nmost 1\n": api.ErrSyntax,
		all + "most\n": api.ErrSyntax, all + "most \n": api.ErrSyntax, all + "most 0\n": api.ErrSyntax, all + "most -1\n": api.ErrSyntax, all + "most +1\n": api.ErrSyntax, all + "most 01\n": api.ErrSyntax, all + "most 1": api.ErrSyntax,
		all + "most 1 \n": api.ErrSyntax, all + "most  1\n": api.ErrSyntax, all + "most x\n": api.ErrSyntax, all + "most 1x\n": api.ErrSyntax, all + "most 1000000000\n": api.ErrSyntax, all + "most 1\nmost 1\n": api.ErrSyntax,
		all + "most 1\ngroup a\n": api.ErrSyntax, all + "most 1\nsort a up\n": api.ErrSyntax, all + "group a\nmost 1\nsort a up\n": api.ErrSyntax, all + "group a\nmost 0\n": api.ErrSyntax,
		// Right forms of wrong questions.
		"where not()\n": api.ErrForm, "where deep 1000001\n": api.ErrRange, "where has()\nsort A up\n": api.ErrName, "where says \"\"\nmost 3000\n": api.ErrLarge, "where .a = -\nsort A up\n": api.ErrKind,
		all + "sort A up\n": api.ErrName, all + "sort @x down\n": api.ErrName, all + "sort a up up\n": api.ErrName, all + "sort a down up\n": api.ErrName, all + "sort   up\n": api.ErrName,
		all + "sort a up\nsort a down\n": api.ErrTwice, all + "sort a up\nsort b up\nsort c up\nsort d up\nsort e up\nsort A up\n": api.ErrLarge,
		all + "group A\n": api.ErrName, all + "group a \n": api.ErrName, all + "group  a\n": api.ErrName, all + "group @id\n": api.ErrName, all + "group A\nmost 2001\n": api.ErrName,
		all + "most 2001\n": api.ErrRange, all + "most 999999999\n": api.ErrRange, all + "sort A up\nmost 2001\n": api.ErrName,
		// Where both are wrong the form comes first.
		"where not()\nsort a\n": api.ErrSyntax, all + "sort A up\ngroup \n": api.ErrSyntax, all + "sort A up\nsort A up\nmost 0\n": api.ErrSyntax, "where not()\n\n": api.ErrSyntax, all + "group A\nmost 3000": api.ErrSyntax,
	} {
		got, bad := ask.ReadQuestion(s)
		want(t, fmt.Sprintf("%q", s), got, ask.Question{}, bad, wanted)
	}
}

func TestLongQuestions(t *testing.T) {
	many := "where all()\n" + strings.Repeat("sort a up\n", (api.MaxBody-20)/10)
	_, bad := ask.ReadQuestion(many)
	wantError(t, "many sorts", bad, api.ErrLarge)
	_, bad = ask.ReadQuestion(many + "x")
	wantError(t, "many sorts, and something else", bad, api.ErrSyntax)
	_, bad = ask.ReadQuestion(many + strings.Repeat("x", 20))
	wantError(t, "too many bytes", bad, api.ErrLarge)

	// Questions of MaxBody bytes and of one more: `where any(..)`, a sort, a group and a number.
	var l []ask.Cond
	for range 10 {
		l = append(l, value(ask.Less, "abc", list(make20(20*api.MaxString)...)))
	}
	l[9].Value = list(make20(0)...)
	q := ask.Question{Where: kids(ask.Or, l...), Sorts: sorts("abc"), Group: "abc", Most: 12}
	left := api.MaxBody - len(must(ask.QuestionText(q)))
	for more, wanted := range map[int]api.Errno{0: api.OK, 1: api.ErrLarge} {
		q.Where.Kids[9].Value = list(make20(left + more)...)
		s, bad := ask.QuestionText(q)
		wantError(t, "long", bad, wanted)
		if bad == api.OK {
			read, bad := ask.ReadQuestion(s)
			want(t, "long", read, q, bad, api.OK)
			if len(s) != api.MaxBody {
				t.Error(len(s))
			}
		}
	}
}

// make20 gives 20 Strings of so many bytes in all.
func make20(count int) []api.Value {
	l := make([]api.Value, 20)
	for i := range l {
		here := min(count, api.MaxString)
		l[i], count = str(strings.Repeat("x", here)), count-here
	}
	return l
}
