package ask_test

import (
	"fmt"
	"runtime/debug"
	"strings"
	"testing"

	"florilegium/api"
	"florilegium/ask"
)

// P5.2

func TestCondText(t *testing.T) {
	link := api.Value{Kind: api.Link, Text: "a, b)"}
	day := api.Value{Kind: api.Date, Int: 8465}
	span := api.Value{Kind: api.Span, Int: 8465, To: 8466}
	for s, c := range map[string]ask.Cond{
		`all()`:                       kids(ask.And),
		`all(is-page)`:                kids(ask.And, page()),
		`all(is-page, any(), deep 0)`: kids(ask.And, page(), kids(ask.Or), number(ask.Deep, 0)),
		`any(all(any()), all())`:      kids(ask.Or, kids(ask.And, kids(ask.Or)), kids(ask.And)),
		`not(is-page)`:                kids(ask.Not, page()),
		`parent(not(has(a)))`:         kids(ask.Parent, kids(ask.Not, has("a"))),
		`kid(below(all(all(all()))))`: kids(ask.SomeKid, kids(ask.SomeBelow, kids(ask.And, kids(ask.And, kids(ask.And))))),
		`says "a"`:                    words(ask.Says, "a"),
		`says " A, \"b\")\\ "`:        words(ask.Says, ` A, "b")\ `),
		`says "\\\\\"\""`:             words(ask.Says, `\\""`),
		"says \"\xff\x80\"":           words(ask.Says, "\xff\x80"),
		`links "A \"b\" \\ (c), d"`:   words(ask.LinksTo, `A "b" \ (c), d`),
		"links \"\x7f\"":              words(ask.LinksTo, "\x7f"),
		`tag "A/b-1_"`:                words(ask.Tagged, "A/b-1_"),
		"page \"\\\"\x7f\"":           words(ask.InPage, "\"\x7f"),
		`is-page`:                     page(),
		`deep 1000000`:                number(ask.Deep, api.MaxId),
		`under 0`:                     number(ask.Under, 0),
		`under 12`:                    number(ask.Under, 12),
		`has(a-9)`:                    has("a-9"),
		`.a = 1`:                      value(ask.Equal, "a", num(1)),
		`.a-9 < -1000000000`:          value(ask.Less, "a-9", num(-api.MaxNumber)),
		`.a > no`:                     value(ask.More, "a", api.Value{Kind: api.Flag}),
		`.a = ""`:                     value(ask.Equal, "a", str("")),
		`.a = ", \"b\") [\\"`:         value(ask.Equal, "a", str(`, "b") [\`)),
		`.a = "[[b"`:                  value(ask.Equal, "a", str("[[b")),
		`.a < 2024-03-06`:             value(ask.Less, "a", day),
		`.a > 2024-03-06..2024-03-07`: value(ask.More, "a", span),
		`.a = [[a, b)]]`:              value(ask.Equal, "a", link),
		`.a = [["]]`:                  value(ask.Equal, "a", api.Value{Kind: api.Link, Text: `"`}),
		`.a = []`:                     value(ask.Equal, "a", list()),
		`.a = [[[a, b)]]]`:            value(ask.Equal, "a", list(link)),
		`.a = [[[a, b)]], ")", [[a, b)]], "]", "[", 1, yes]`: value(ask.Equal, "a", list(link, str(")"), link, str("]"), str("["), num(1), api.Value{Kind: api.Flag, Int: 1})),
		`all(.a = [[a, b)]], .b = "\"),", .c = [1, [["]], ")"], .d = 2024-03-06, .e = [])`: kids(ask.And,
			value(ask.Equal, "a", link), value(ask.Equal, "b", str(`"),`)),
			value(ask.Equal, "c", list(num(1), api.Value{Kind: api.Link, Text: `"`}, str(")"))),
			value(ask.Equal, "d", day), value(ask.Equal, "e", list())),
		`any(not(.a = -5), .b > "x", not(links "x"), deep 7)`: kids(ask.Or, kids(ask.Not, value(ask.Equal, "a", num(-5))),
			value(ask.More, "b", str("x")), kids(ask.Not, words(ask.LinksTo, "x")), number(ask.Deep, 7)),
	} {
		got, bad := ask.CondText(c)
		want(t, s, got, s, bad, api.OK)
		read, bad := ask.ReadCond(s)
		want(t, s, read, c, bad, api.OK)
	}
}

func TestCondTextErrors(t *testing.T) {
	for _, c := range []ask.Cond{{}, kids(ask.Not), words(ask.Says, ""), has("A"), number(ask.Deep, -1), within(ask.Not, 40, page()), within(ask.Not, 60, page())} {
		got, bad := ask.CondText(c)
		want(t, fmt.Sprint(c), got, "", bad, ask.CheckCond(c))
		if bad == api.OK {
			t.Error(c)
		}
	}
	// Strings of MaxBody bytes and of one more.
	var l []ask.Cond
	for range 10 {
		l = append(l, value(ask.Equal, "a", list(make20(20*api.MaxString)...)))
	}
	l[9].Value = list(make20(0)...)
	c := kids(ask.And, l...)
	left := api.MaxBody - len(must(ask.CondText(c)))
	for more, wanted := range map[int]api.Errno{0: api.OK, 1: api.ErrLarge} {
		l[9].Value = list(make20(left + more)...)
		s, bad := ask.CondText(c)
		wantError(t, "long", bad, wanted)
		if bad == api.OK {
			read, bad := ask.ReadCond(s)
			want(t, "long", read, c, bad, api.OK)
			want(t, "long", len(s), api.MaxBody, bad, api.OK)
		} else if s != "" {
			t.Error(len(s))
		}
		q, bad := ask.QuestionText(ask.Question{Where: c})
		want(t, "long question", q, "", bad, api.ErrLarge)
	}
}

func TestReadCondErrors(t *testing.T) {
	for s, wanted := range map[string]api.Errno{
		// Of no form.
		"": api.ErrSyntax, " ": api.ErrSyntax, "is-page ": api.ErrSyntax, " is-page": api.ErrSyntax, "is-pages": api.ErrSyntax, "is-page\n": api.ErrSyntax,
		"Is-page": api.ErrSyntax, "all": api.ErrSyntax, "all(": api.ErrSyntax, "all)": api.ErrSyntax, "all())": api.ErrSyntax, "all ()": api.ErrSyntax,
		"all( )": api.ErrSyntax, "all(is-page": api.ErrSyntax, "all(is-page,": api.ErrSyntax, "all(is-page, ": api.ErrSyntax, "all(is-page, )": api.ErrSyntax,
		"all(, is-page)": api.ErrSyntax, "all(is-page,is-page)": api.ErrSyntax, "all(is-page ,is-page)": api.ErrSyntax, "all(is-page,  is-page)": api.ErrSyntax,
		"all(is-page is-page)": api.ErrSyntax, "all(is-page))": api.ErrSyntax, "is-page, is-page": api.ErrSyntax, "all(), all()": api.ErrSyntax, "not(is-page": api.ErrSyntax,
		"()": api.ErrSyntax, ")": api.ErrSyntax, "(is-page)": api.ErrSyntax, "none(is-page)": api.ErrSyntax, "all(any(), not(": api.ErrSyntax,
		"all(is-page), ": api.ErrSyntax, "any(all(is-page)": api.ErrSyntax,
		// Strings.
		"says": api.ErrSyntax, "says ": api.ErrSyntax, "says a": api.ErrSyntax, `says "`: api.ErrSyntax, `says "a`: api.ErrSyntax, `says a"`: api.ErrSyntax,
		`says  "a"`: api.ErrSyntax, `says"a"`: api.ErrSyntax, `says "a" `: api.ErrSyntax, `says "a"b"`: api.ErrSyntax, `says "a\"`: api.ErrSyntax, `says "\a"`: api.ErrSyntax,
		`says "\\\"`: api.ErrSyntax, `says "a\`: api.ErrSyntax, `says "\n"`: api.ErrSyntax, `tag a`: api.ErrSyntax, `page ""x`: api.ErrSyntax, `all(says "a)`: api.ErrSyntax,
		// Numbers.
		"deep": api.ErrSyntax, "deep ": api.ErrSyntax, "deep -1": api.ErrSyntax, "deep -0": api.ErrSyntax, "deep +1": api.ErrSyntax, "deep 01": api.ErrSyntax, "deep 00": api.ErrSyntax,
		"deep  1": api.ErrSyntax, "deep 1 ": api.ErrSyntax, "deep 1a": api.ErrSyntax, "deep a": api.ErrSyntax, "deep 1000000000": api.ErrSyntax, "deep 0000000001": api.ErrSyntax,
		"under": api.ErrSyntax, "under x": api.ErrSyntax, "under 99999999999999999999999": api.ErrSyntax, "deep(1)": api.ErrSyntax,
		// Names.
		"has": api.ErrSyntax, "has(": api.ErrSyntax, "has(a": api.ErrSyntax, "has(a b)": api.ErrSyntax, "has( a)": api.ErrSyntax, "has(a )": api.ErrSyntax, "has a": api.ErrSyntax, "has(a))": api.ErrSyntax,
		".": api.ErrSyntax, ".a": api.ErrSyntax, ".a ": api.ErrSyntax, ".a =": api.ErrSyntax, ".a = ": api.ErrSyntax, ".a=1": api.ErrSyntax, ".a =1": api.ErrSyntax, ".a= 1": api.ErrSyntax,
		".a  = 1": api.ErrSyntax, ".a =  1": api.ErrSyntax, ".a == 1": api.ErrSyntax, ".a <= 1": api.ErrSyntax, ".a ! 1": api.ErrSyntax, "a = 1": api.ErrSyntax, ".a) = 1": api.ErrSyntax, "..": api.ErrSyntax,
		// Values for which prop.Read has an error, of any kind.
		".a = x": api.ErrSyntax, ".a = 1 ": api.ErrSyntax, ".a = 01": api.ErrSyntax, ".a = 1000000001": api.ErrSyntax, ".a = 2024-02-30": api.ErrSyntax, ".a = 2024-03-07..2024-03-06": api.ErrSyntax,
		".a = \"\n\"": api.ErrSyntax, ".a = [[ a]]": api.ErrSyntax, ".a = [[]]": api.ErrSyntax, ".a = [[a]": api.ErrSyntax, ".a = [[a": api.ErrSyntax, ".a = [": api.ErrSyntax, ".a = [1": api.ErrSyntax,
		".a = [1,2]": api.ErrSyntax, ".a = [1]]": api.ErrSyntax, ".a = [-]": api.ErrSyntax, ".a = [[1]]x": api.ErrSyntax, ".a = [[], 1]": api.ErrSyntax, ".a = [[1], 2]": api.ErrSyntax, ".a = \"": api.ErrSyntax, ".a = \"b": api.ErrSyntax,
		".a = \"b\"\"": api.ErrSyntax, ".a = \"b\\\"": api.ErrSyntax, ".a = 1, .b = 2": api.ErrSyntax, ".a = 1)": api.ErrSyntax, "all(.a = 1": api.ErrSyntax, "all(.a = [1)": api.ErrSyntax, "all(.a = [[a)": api.ErrSyntax,
		"all(.a = \"b)": api.ErrSyntax, "all(.a = )": api.ErrSyntax, "all(.a = , is-page)": api.ErrSyntax, "all(.a = 1\", is-page, .b = \")": api.ErrSyntax, ".a = [[[a]]": api.ErrSyntax, ".a = [[[[a]]]": api.ErrSyntax,
		".a = \"" + strings.Repeat("a", api.MaxString+1) + "\"": api.ErrSyntax, ".a = [" + strings.Repeat("1, ", api.MaxItems) + "1]": api.ErrSyntax,
		// Right forms of wrong conditions.
		"not()": api.ErrForm, "not(is-page, is-page)": api.ErrForm, "kid()": api.ErrForm, "parent(all(), all())": api.ErrForm, "below()": api.ErrForm,
		`says ""`: api.ErrLarge, `says "` + strings.Repeat("a", 201) + `"`: api.ErrLarge, "says \"\n\"": api.ErrByte, "says \"\x7f\"": api.ErrByte, `links ""`: api.ErrName, `page "a]"`: api.ErrName,
		"links \"a\nb\"": api.ErrName, `tag "1"`: api.ErrName, `tag "a b"`: api.ErrName, "deep 1000001": api.ErrRange, "under 999999999": api.ErrRange,
		"has()": api.ErrName, "has(A)": api.ErrName, "has(a,b)": api.ErrName, "has((a)": api.ErrName, "has(\n)": api.ErrName, "has(~a~)": api.ErrName, "has(a\x00(\xff\"[)": api.ErrName, ".~ = 1": api.ErrName, ". = 1": api.ErrName, ".A = 1": api.ErrName, ".a,b = 1": api.ErrName, "..a = 1": api.ErrName, ".\"a = 1": api.ErrName,
		".a = -": api.ErrKind, "all(.a < -, .b > -)": api.ErrKind, ".A = -": api.ErrName,
		// Where both are wrong the form comes first.
		"not(, )": api.ErrSyntax, "all(not(), says \"\", x)": api.ErrSyntax, "all(deep 1000001": api.ErrSyntax, ". = ": api.ErrSyntax, "has() ": api.ErrSyntax,
	} {
		got, bad := ask.ReadCond(s)
		want(t, fmt.Sprintf("%.80q", s), got, ask.Cond{}, bad, wanted)
	}
}

// brackets gives a string of so many bytes that is that of a condition, nested or not.
func brackets(count int, nested bool) string {
	s := strings.Repeat("all(), ", count/7)
	if nested {
		s = strings.Repeat("all(", count/5-1)
		return s + strings.Repeat(")", len(s)/4)
	}
	return "all(" + s[:len(s)-2] + ")"
}

func TestLongConditions(t *testing.T) {
	defer debug.SetMaxStack(debug.SetMaxStack(1 << 24))
	for _, nested := range []bool{false, true} {
		s := brackets(api.MaxBody-10, nested)
		_, bad := ask.ReadCond(s)
		wantError(t, s[:20], bad, api.ErrLarge)
		_, bad = ask.ReadCond(s[:len(s)-1])
		wantError(t, s[:20], bad, api.ErrSyntax)
		_, bad = ask.ReadCond(s + " ")
		wantError(t, s[:20], bad, api.ErrSyntax)
	}
	for _, piece := range []string{"all(", "not(", ".a = [", ".a = \"", ".a = [[", "has(", "deep 1", "says \"", "is-page, ", "\\", "."} {
		_, bad := ask.ReadCond(strings.Repeat(piece, api.MaxBody/len(piece)))
		wantError(t, piece, bad, api.ErrSyntax)
	}
	for wanted, s := range map[api.Errno]string{api.ErrSyntax: strings.Repeat(" ", api.MaxBody), api.ErrLarge: strings.Repeat(" ", api.MaxBody+1)} {
		_, bad := ask.ReadCond(s)
		wantError(t, "spaces", bad, wanted)
		_, bad = ask.ReadQuestion(s)
		wantError(t, "spaces", bad, wanted)
	}
}

// Limits of the whole condition, by what is read.
func TestReadLimits(t *testing.T) {
	for s, wanted := range map[string]api.Errno{
		"all(" + strings.Repeat("is-page, ", 58) + "is-page)":            api.OK,
		"all(" + strings.Repeat("is-page, ", 59) + "is-page)":            api.ErrLarge,
		strings.Repeat("not(", 39) + "is-page" + strings.Repeat(")", 39): api.OK,
		strings.Repeat("not(", 40) + "is-page" + strings.Repeat(")", 40): api.ErrDeep,
		strings.Repeat("not(", 40) + "deep 1" + strings.Repeat(")", 39):  api.ErrSyntax,
	} {
		c, bad := ask.ReadCond(s)
		wantError(t, s, bad, wanted)
		if bad == api.OK {
			got, bad := ask.CondText(c)
			want(t, s, got, s, bad, api.OK)
		}
	}
}
