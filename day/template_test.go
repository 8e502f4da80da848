package day_test

import (
	"fmt"
	"math"
	"strings"
	"testing"

	"florilegium/api"
	"florilegium/day"
)

const (
	longName    = "abcdefghij-123456789" // api.MaxName bytes
	tooLongName = longName + "0"
)

// P6.9

func TestRightTemplates(t *testing.T) {
	for s, names := range map[string][]string{
		"": nil, "text": nil, "{": nil, "}": nil, "}}": nil, "{}": nil, "{ {a}}": nil, "{a}": nil, "a|b}}": nil, "{a{b{c": nil,
		"{{{": nil, "{{{{": nil, "{{{{{{": nil, "{{{{{{{": nil, "{{{a}}": nil, "{{{{a}}": nil, "{{{}}}": nil, "a{{{\nb{": nil,
		"{{a}}": {"a"}, "{{a}}}": {"a"}, "{{a}}{": {"a"}, "}}{{a}}": {"a"}, "{{{{{a}}": {"a"}, "{{a}}{{{b}}": {"a"}, "{x{{a}}x}": {"a"}, "\x00\xff{{a}}\u00e9\n": {"a"},
		"{{0}}": {"0"}, "{{-}}": {"-"}, "{{--}}": {"--"}, "{{a-0}}": {"a-0"}, "{{z9}}": {"z9"}, "{{" + longName + "}}": {longName}, "{{date}}": {"date"},
		"{{a|}}": {"a"}, "{{a|b}}": {"a"}, "{{a| }}": {"a"}, "{{a||}}": {"a"}, "{{a|A b|c\t\u00e9\xff}}": {"a"}, "{{a|b}}}}": {"a"}, "{{a|" + strings.Repeat("x", 9999) + "}}": {"a"},
		"{{c}}{{a}} {{b|c}}{{a|1}}": {"a", "b", "c"}, "{{b}}{{b-}}{{b0}}{{ba}}{{0b}}{{-b}}": {"-b", "0b", "b", "b-", "b0", "ba"},
	} {
		at, bad := day.CheckTemplate(s)
		want(t, "CheckTemplate "+s, at, 0, bad, api.OK)
		got, bad := day.Fields(s)
		want(t, "Fields "+s, got, names, bad, api.OK)
	}
}

func TestWrongTemplates(t *testing.T) {
	for s, wanted := range map[string]int{
		"{{": 2, "x{{": 3, "{{}}": 2, "{{|b}}": 2, "{{ a}}": 2, "{{A}}": 2, "{{_}}": 2, "{{\n}}": 2, "{{\u00e9}}": 2, "{{`}}": 2, "{{/}}": 2, "{{:}}": 2, "{{,}}": 2, "{{.}}": 2, "{{{{{": 5, "{{{{{A": 5, "{{a}}{{": 7,
		"{{a": 3, "{{a}": 4, "{{a}x": 4, "{{a}{": 4, "{{a} }": 4, "{{a b}}": 3, "{{a{": 3, "{{aB}}": 3, "{{a{{b}}}}": 3, "{{a\n}}": 3, "{{a:b}}": 3,
		"{{a|": 4, "{{a|b": 5, "{{a|b{": 5, "{{a|b{{c}}}}": 5, "{{a|b\n}}": 5, "{{a|b}": 6, "{{a|b}c": 6, "{{a|b}c}}": 6, "{{a|b}\n": 6, "{{a|}": 5, "{{a|{": 4, "{{a|\n": 4, "{{a|}x}}": 5,
		"{{" + tooLongName + "}}": 22, "{{" + tooLongName: 22, "{{" + longName: 22, "{{" + longName + "A": 22, "{{" + longName + "|b": 24,
		"{{a}} {{b}} {{C}}": 14, "text {{{ {{a}} {{": 17, strings.Repeat("{{a}}", day.MaxFields+1) + "{{": 207,
		strings.Repeat("x", api.MaxBody-2) + "{{": api.MaxBody, strings.Repeat("{{{", 133333) + "{": 0,
	} {
		wantedBad, fillBad := api.ErrSyntax, api.ErrSyntax
		if wanted == 0 {
			wantedBad, fillBad = api.OK, api.ErrLarge
		}
		at, bad := day.CheckTemplate(s)
		if bad != wantedBad || at != wanted {
			t.Errorf("CheckTemplate(%.100q) = %d, %d, want %d", s, at, bad, wanted)
		}
		wantError(t, "Fields "+s, second(day.Fields(s)), wantedBad)
		wantError(t, "Fill "+s, second(day.Fill(s, make([]day.Pair, day.MaxFields+1), -1)), fillBad)
	}
}

func TestLargeTemplates(t *testing.T) {
	most := strings.Repeat("{{a}}{{b|c}}", day.MaxFields/2)
	for _, c := range []struct {
		name, s string
		bad     api.Errno
	}{
		{"most bytes", strings.Repeat("x", api.MaxBody), api.OK},
		{"too many bytes", strings.Repeat("x", api.MaxBody+1), api.ErrLarge},
		{"too many bytes, and no template", "{{" + strings.Repeat("x", api.MaxBody-1), api.ErrLarge},
		{"most fields", most, api.OK},
		{"most fields, and braces that are none", most + "{{{a}}{b}", api.OK},
		{"too many fields", most + "{{a}}", api.ErrLarge},
		{"too many fields of one name", strings.Repeat("{{a}}", day.MaxFields+1), api.ErrLarge},
	} {
		at, bad := day.CheckTemplate(c.s)
		want(t, c.name, at, 0, bad, c.bad)
		wantError(t, "Fields of "+c.name, second(day.Fields(c.s)), c.bad)
		wantError(t, "Fill of "+c.name, second(day.Fill(c.s, []day.Pair{{Name: "a"}}, 0)), c.bad)
	}
}

func TestFill(t *testing.T) {
	for _, c := range []struct {
		s      string
		values []day.Pair
		day    int
		filled string
	}{
		{"# {{date}} {{mood|?}}", nil, march, "# 2024-03-06 ?"}, // the chapter's example
		{"", nil, 0, ""},
		{"{ {{{ {{{{ }} {a}", nil, 0, "{ {{ {{{ }} {a}"},
		{"{{{{{{a}}{{{{{b}}", []day.Pair{{"a", "1"}, {"b", "2"}}, 0, "{{{{a}}{{2"},
		{"{{a}}{{a|x}}{{b}}{{b|y}}{{c|z}}", []day.Pair{{"b", ""}, {"a", "1"}}, 0, "11yz"},
		{"{{a|}}.{{b|}}.{{c|}}", []day.Pair{{"a", "1"}, {"b", ""}}, 0, "1.."},
		{"{{a}}{{b}}{{c}}", []day.Pair{{"a", "{{b}}"}, {"b", "{{{"}, {"c", "{"}, {"d", "}}"}}, 0, "{{b}}{{{{"},
		{"{{a}}", []day.Pair{{"a", "\x00\n\xff"}}, 0, "\x00\n\xff"},
		{"{{0}}{{-}}{{" + longName + "}}", []day.Pair{{"-", "minus"}, {longName, "long"}, {"0", "zero"}}, 0, "zerominuslong"},
		{"{{a}}", []day.Pair{{"a", strings.Repeat("x", api.MaxString)}}, 0, strings.Repeat("x", api.MaxString)},
	} {
		got, bad := day.Fill(c.s, c.values, c.day)
		want(t, c.s, got, c.filled, bad, api.OK)
	}
}

func TestFillWithDays(t *testing.T) {
	const all = "{{yesterday|-}} {{date|-}} {{tomorrow|-}} {{weekday|-}}"
	for _, c := range []struct {
		s      string
		values []day.Pair
		day    int
		filled string
	}{
		{all, nil, march, "2024-03-05 2024-03-06 2024-03-07 wednesday"},
		{all, nil, 0, "- 2001-01-01 2001-01-02 monday"},
		{all, nil, api.MaxDay, "2274-10-16 2274-10-17 - saturday"},
		{all, nil, 8459, "2024-02-28 2024-02-29 2024-03-01 thursday"},
		{"{{weekday}}", nil, 1, "tuesday"}, {"{{weekday}}", nil, 4, "friday"}, {"{{weekday}}", nil, 6, "sunday"}, {"{{weekday}}", nil, 7, "monday"},
		{all, []day.Pair{{"date", "now"}, {"weekday", ""}, {"yesterday", "then"}}, 0, "then now 2001-01-02 -"},
		{"{{date}}{{weekday}}", []day.Pair{{"weekday", ""}, {"date", ""}}, 0, ""},
		{"{{tomorrow}}", []day.Pair{{"tomorrow", "never"}}, api.MaxDay, "never"},
		{"{{tomorrow}}", []day.Pair{{"tomorrow", ""}}, 0, ""},
	} {
		got, bad := day.Fill(c.s, c.values, c.day)
		want(t, fmt.Sprint(c), got, c.filled, bad, api.OK)
	}
}

func TestErrorsOfFill(t *testing.T) {
	var many []day.Pair
	for i := range day.MaxFields + 1 {
		many = append(many, day.Pair{Name: fmt.Sprint("n", i)})
	}
	long := strings.Repeat("x", api.MaxString+1)
	for _, c := range []struct {
		s      string
		values []day.Pair
		day    int
		bad    api.Errno
	}{
		{"{{a}}", append(many, day.Pair{}), -1, api.ErrLarge},
		{"", many, 0, api.ErrLarge},
		{"", many[1:], 0, api.OK},
		{"{{a}}", []day.Pair{{"", long}}, -1, api.ErrName},
		{"{{a}}", []day.Pair{{"A", ""}, {"A", ""}}, -1, api.ErrName},
		{"", []day.Pair{{tooLongName, ""}}, 0, api.ErrName},
		{"", []day.Pair{{"a b", ""}}, 0, api.ErrName},
		{"", []day.Pair{{"a|", ""}}, 0, api.ErrName},
		{"", []day.Pair{{"a", ""}, {"b", long}, {"", ""}}, 0, api.ErrLarge},
		{"{{a}}", []day.Pair{{"a", ""}, {"a", long}, {"", ""}}, -1, api.ErrTwice},
		{"", []day.Pair{{"a", ""}, {"b", ""}, {"a", ""}}, 0, api.ErrTwice},
		{"", []day.Pair{{"date", ""}, {"date", ""}}, 0, api.ErrTwice},
		{"{{b}}", []day.Pair{{"a", long}}, -1, api.ErrLarge},
		{"{{b}}", []day.Pair{{"a", ""}}, -1, api.ErrRange},
		{"", nil, api.MaxDay + 1, api.ErrRange},
		{"{{date}}", []day.Pair{{"date", "x"}}, math.MaxInt, api.ErrRange},
		{"{{date}}", nil, math.MinInt, api.ErrRange},
		{"{{b}}", []day.Pair{{"a", "x"}}, 0, api.ErrNone},
		{"{{a}}{{b}}{{c}}", []day.Pair{{"a", "x"}, {"c", "x"}}, 0, api.ErrNone},
		{"{{yesterday}}", nil, 0, api.ErrNone},
		{"{{tomorrow}}", nil, api.MaxDay, api.ErrNone},
		{"{{yesterday}}{{tomorrow}}", nil, 1, api.OK},
	} {
		got, bad := day.Fill(c.s, c.values, c.day)
		if bad != c.bad || got != "" && bad != api.OK {
			t.Errorf("%.200s: %q, %d", fmt.Sprint(c), got, bad)
		}
	}
}

func TestFillWithMuch(t *testing.T) {
	most := day.Pair{Name: "a", Value: strings.Repeat("x", api.MaxString)}
	text := strings.Repeat("{{{", (api.MaxBody-api.MaxString)/2) // two bytes each when filled
	text = text[:(api.MaxBody-5)/3*3]
	for _, c := range []struct {
		name, s string
		bad     api.Errno
	}{
		{"just so many", strings.Repeat("y", api.MaxBody-api.MaxString) + "{{a}}", api.OK},
		{"one too many", strings.Repeat("y", api.MaxBody-api.MaxString+1) + "{{a}}", api.ErrLarge},
		{"one too many, and no value", strings.Repeat("y", api.MaxBody-api.MaxString+1) + "{{a}}{{b}}", api.ErrNone},
		{"no value, and one too many", "{{b}}" + strings.Repeat("y", api.MaxBody-api.MaxString+1) + "{{a}}", api.ErrNone},
		{"braces become fewer", text + "{{a}}", api.OK},
	} {
		got, bad := day.Fill(c.s, []day.Pair{most}, 0)
		wantError(t, c.name, bad, c.bad)
		if bad != api.OK && got != "" || len(got) > api.MaxBody {
			t.Error(c.name, len(got), bad)
		}
	}
}
