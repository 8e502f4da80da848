package prop_test

import (
	"regexp"
	"slices"
	"strconv"
	"strings"
	"testing"

	"florilegium/api"
	"florilegium/prop"
)

func TestConstants(t *testing.T) {
	if prop.MaxTypes != 40 || prop.MaxChoices != 20 || prop.MaxValues != 5000 {
		t.Error(prop.MaxTypes, prop.MaxChoices, prop.MaxValues)
	}
	ways := []int{prop.Count, prop.Different, prop.Sum, prop.Least, prop.Most, prop.Mean}
	if !slices.Equal(ways, []int{1, 2, 3, 4, 5, 6}) {
		t.Error(ways)
	}
}

// P2.1

func TestCheckValueOfRightOnes(t *testing.T) {
	full := strings.Repeat("é", api.MaxString/2)
	title := strings.Repeat("é", api.MaxTitle/2)
	for _, v := range []api.Value{
		{}, {Items: []api.Value{}}, flag(0), flag(1), num(0), num(api.MaxNumber), num(-api.MaxNumber),
		str(""), str(full), str(" [[a]] \x80\xff~ "), day(0), day(api.MaxDay), span(0, 0), span(3, 4), span(0, api.MaxDay),
		span(api.MaxDay, api.MaxDay), link("a"), link(title), link("a b"), link("`#((1))**\\\"\xff"), link("("),
		list(), list(num(1)), list(num(1), num(1), str(""), link("a"), day(1), span(1, 2), flag(0)), nums(make([]int, api.MaxItems)...),
	} {
		if got := prop.CheckValue(v); got != api.OK {
			t.Errorf("CheckValue(%.80v) = %d", v, got)
		}
	}
}

func TestCheckValueOfWrongOnes(t *testing.T) {
	full := strings.Repeat("a", api.MaxString)
	title := strings.Repeat("a", api.MaxTitle)
	for _, c := range []struct {
		v    api.Value
		want api.Errno
	}{
		{api.Value{Kind: -1}, api.ErrKind}, {api.Value{Kind: 8}, api.ErrKind}, {api.Value{Kind: 8, Text: "\n"}, api.ErrKind},
		{flag(2), api.ErrRange}, {flag(-1), api.ErrRange}, {num(api.MaxNumber + 1), api.ErrRange}, {num(-api.MaxNumber - 1), api.ErrRange},
		{day(-1), api.ErrRange}, {day(api.MaxDay + 1), api.ErrRange}, {span(-1, 0), api.ErrRange}, {span(0, -1), api.ErrRange},
		{span(0, api.MaxDay+1), api.ErrRange}, {span(api.MaxDay+1, 0), api.ErrRange}, {span(1, 0), api.ErrOrder}, {span(api.MaxDay, 0), api.ErrOrder},
		{str(full + "a"), api.ErrLarge}, {str(full + "\n"), api.ErrLarge}, {str("\n"), api.ErrByte}, {str("a\x00"), api.ErrByte},
		{str("\x1f"), api.ErrByte}, {str("\x7f"), api.ErrByte}, {link(title + "a"), api.ErrLarge}, {link(title + "\n"), api.ErrLarge},
		{link(full), api.ErrLarge}, {link("\n"), api.ErrByte}, {link(" \x7f"), api.ErrByte}, {link(""), api.ErrForm}, {link(" a"), api.ErrForm},
		{link("a "), api.ErrForm}, {link(" "), api.ErrForm}, {link("a[b"), api.ErrForm}, {link("]"), api.ErrForm}, {link("a|b"), api.ErrForm},
		{nums(make([]int, api.MaxItems+1)...), api.ErrLarge}, {list(make([]api.Value, api.MaxItems+1)...), api.ErrLarge},
		{list(api.Value{}), api.ErrKind}, {list(api.Value{Int: 1}), api.ErrKind}, {list(list()), api.ErrKind}, {list(num(1), list(num(1))), api.ErrKind},
		{list(api.Value{Kind: api.List, Int: 1}), api.ErrKind}, {list(api.Value{Kind: 8}), api.ErrKind}, {list(flag(2)), api.ErrRange},
		{list(num(1), str("\n")), api.ErrByte}, {list(link(" ")), api.ErrForm}, {list(span(2, 1)), api.ErrOrder}, {list(str(full + "a")), api.ErrLarge},
		{list(flag(2), api.Value{}), api.ErrRange}, {list(api.Value{}, flag(2)), api.ErrKind},
		{list(api.Value{Kind: api.Number, Items: numbers(1)}), api.ErrForm},
	} {
		if got := prop.CheckValue(c.v); got != c.want {
			t.Errorf("CheckValue(%.80v) = %d, want %d", c.v, got, c.want)
		}
	}
}

func TestCheckValueOfUnusedFields(t *testing.T) {
	uses := []string{"", "I", "I", "T", "I", "IO", "T", "L"} // Int, tO, Text, List
	fields := map[string]func(v *api.Value){
		"I": func(v *api.Value) { v.Int = -5 },
		"O": func(v *api.Value) { v.To = -5 },
		"T": func(v *api.Value) { v.Text = "a" },
		"L": func(v *api.Value) { v.Items = numbers(1) },
	}
	for kind, used := range uses {
		for field, set := range fields {
			v := api.Value{Kind: kind}
			set(&v)
			if got := prop.CheckValue(v) == api.ErrForm; got == strings.Contains(used, field) {
				t.Errorf("CheckValue(%v) = %d", v, prop.CheckValue(v))
			}
		}
	}
	wrong := api.Value{Kind: api.List, Int: 1, Items: make([]api.Value, api.MaxItems+1)}
	if got := prop.CheckValue(wrong); got != api.ErrForm {
		t.Error(got)
	}
}

func TestCheckValueOfEachByte(t *testing.T) {
	for c := range 256 {
		s := "a" + string([]byte{byte(c)}) + "a"
		want := api.OK
		if c < 32 || c == 127 {
			want = api.ErrByte
		}
		if got := prop.CheckValue(str(s)); got != want {
			t.Errorf("%q: %d", s, got)
		}
		if c == '[' || c == ']' || c == '|' {
			want = api.ErrForm
		}
		if got := prop.CheckValue(link(s)); got != want {
			t.Errorf("%q: %d", s, got)
		}
	}
}

// P2.2

// written has values, and what Text writes for them.
func written() []struct {
	v api.Value
	s string
} {
	return []struct {
		v api.Value
		s string
	}{
		{api.Value{}, "-"}, {flag(1), "yes"}, {flag(0), "no"}, {num(0), "0"}, {num(-7), "-7"}, {num(api.MaxNumber), "1000000000"},
		{num(-api.MaxNumber), "-1000000000"}, {num(2024), "2024"}, {str(""), `""`}, {str("a b"), `"a b"`}, {str(`"\`), `"\"\\"`},
		{str(`\"`), `"\\\""`}, {str("é\xff"), "\"é\xff\""}, {str("2001-01-01"), `"2001-01-01"`}, {day(0), "2001-01-01"},
		{day(8465), "2024-03-06"}, {day(api.MaxDay), "2274-10-17"}, {span(0, 0), "2001-01-01..2001-01-01"}, {span(0, 31), "2001-01-01..2001-02-01"},
		{link("Big Cats"), "[[Big Cats]]"}, {link("a, b"), "[[a, b]]"}, {link("\"`\\"), "[[\"`\\]]"}, {list(), "[]"}, {nums(1), "[1]"},
		{list(link("a")), "[[[a]]]"}, {list(link("a"), link("b")), "[[[a]], [[b]]]"}, {list(str("a, ]"), num(-1)), `["a, ]", -1]`},
		{list(flag(0), flag(1), day(1), span(0, 1), str(`"`)), `[no, yes, 2001-01-02, 2001-01-01..2001-01-02, "\""]`},
		{list(num(1), link("a]")), ""}, {list(num(1), link("a, b")), "[1, [[a, b]]]"},
	}
}

func TestText(t *testing.T) {
	for _, c := range written() {
		got, bad := prop.Text(c.v)
		if got != c.s || bad != prop.CheckValue(c.v) {
			t.Errorf("Text(%v) = %q, %d, want %q", c.v, got, bad, c.s)
		}
	}
	for _, v := range []api.Value{{Kind: 8}, flag(2), str("\n"), span(1, 0), list(api.Value{}), {Kind: api.Date, To: 1}} {
		if got, bad := prop.Text(v); got != "" || bad == api.OK || bad != prop.CheckValue(v) {
			t.Errorf("Text(%v) = %q, %d", v, got, bad)
		}
	}
}

func TestRead(t *testing.T) {
	for _, c := range written() {
		if c.s == "" {
			continue
		}
		if got, bad := prop.Read(c.s); !same(got, c.v) || bad != api.OK {
			t.Errorf("Read(%q) = %v, %d", c.s, got, bad)
		}
	}
	for _, s := range []string{
		"", " ", "- ", " -", "--", "-0", "00", "01", "-01", "+1", "1.0", "0x1", "1e3", "12345678901", "-12345678901", "Yes", "YES", "yess", "n", "true",
		`"`, `"a`, `a"`, `"a"b`, `"a\"`, `"\a"`, `"\`, `"a""`, `""""`, "'a'", "a", "2001-1-1", "2001-01-1", "2001-01-011", "2001-01", "12001-01-01",
		"-2001-01-01", "2001-01-01T", "2001-01-01..", "..2001-01-01", "2001-01-01 .. 2001-01-02", "2001-01-01..2001-01-02..2001-01-03", "2001-01-01...2001-01-02",
		"2001-01-01.2001-01-02", "2001-01-01..5", "[", "]", "[]]", "[[", "[[]", "[[a]", "[[a", "[[a]]]", "[[a]]x", "[[a]] ", "[[a]][[b]]", "[a]", "[1", "[1,2]",
		"[1 , 2]", "[1,  2]", "[1, ]", "[, 1]", "[1, , 2]", "[ 1]", "[1 ]", "[ ]", "[,]", "[, ]", "[1]]", "[1], 2", "[1, [2]]", "[1, []]", "[[1], 2]", "[[], 1]", "[[1]",
		"[[[a]]", "[[[a]", "[[[", "[[[]", "[[[]]", "[[[a]]]]", "[[[a]],[[b]]]", "[yes, ja]", `["a]`, `["a"b]`, "[01]", "[2001-02-30, x]", "[12345678901]", "[[[]], []]", "-5-", "[--]",
	} {
		if got, bad := prop.Read(s); !isZero(got) || bad != api.ErrSyntax {
			t.Errorf("Read(%q) = %v, %d", s, got, bad)
		}
	}
}

func TestReadOfWrongValues(t *testing.T) {
	many := "[" + strings.Repeat("1, ", api.MaxItems)
	for s, want := range map[string]api.Errno{
		"2001-02-29": api.ErrRange, "2000-12-31": api.ErrRange, "2001-00-01": api.ErrRange, "2001-13-01": api.ErrRange, "2001-01-00": api.ErrRange,
		"0000-00-00": api.ErrRange, "9999-99-99": api.ErrRange, "2274-10-18": api.ErrRange, "2001-01-02..2001-01-01": api.ErrOrder,
		"2001-01-02..2001-02-30": api.ErrRange, "2001-02-30..2001-01-01": api.ErrRange, "1000000001": api.ErrRange, "-1000000001": api.ErrRange,
		"9999999999": api.ErrRange, "-9999999999": api.ErrRange, "\"\n\"": api.ErrByte, "\"\x7f\"": api.ErrByte, "[[\x00]]": api.ErrByte,
		"[[]]": api.ErrForm, "[[ a]]": api.ErrForm, "[[a ]]": api.ErrForm, "[[a|b]]": api.ErrForm, "[[a]b]]": api.ErrForm, "[[a[b]]": api.ErrForm,
		"[[a[[b]]": api.ErrForm, "[[[]]]": api.ErrForm, "[[[[a]]]": api.ErrForm, "[1, [[[a]]]": api.ErrForm, "[-]": api.ErrKind, "[1, -]": api.ErrKind,
		"[[1], [2]]":                                        api.ErrForm, // a Link: `1], [2`
		`"` + strings.Repeat("a", 2000) + `"`:               api.OK,
		`"` + strings.Repeat("a", 2001) + `"`:               api.ErrLarge,
		`"` + strings.Repeat(`\"`, 2000) + `"`:              api.OK,
		"[[" + strings.Repeat("a", 100) + "]]":              api.OK,
		"[[" + strings.Repeat("a", 101) + "]]":              api.ErrLarge,
		many[:len(many)-2] + "]":                            api.OK,
		many + "1]":                                         api.ErrLarge,
		many + "2001-02-29]":                                api.ErrRange,
		many + "x]":                                         api.ErrSyntax,
		"[\"\n\", 2001-02-29]":                              api.ErrRange,
		"[\"\n\", 2001-01-01..2001-02-29]":                  api.ErrRange,
		"[2001-01-02..2001-01-01, 2001-02-29]":              api.ErrRange,
		"[2001-01-02..2001-01-01, -]":                       api.ErrOrder,
		"[9999999999, -]":                                   api.ErrRange,
		"[-, 9999999999]":                                   api.ErrKind,
		strings.Repeat("a", api.MaxBody):                    api.ErrSyntax,
		strings.Repeat("a", api.MaxBody+1):                  api.ErrLarge,
		strings.Repeat("1", api.MaxBody):                    api.ErrSyntax,
		"[[" + strings.Repeat("a", api.MaxBody-4) + "]]":    api.ErrLarge,
		`"` + strings.Repeat("\n", api.MaxBody-2) + `"`:     api.ErrLarge,
		`"` + strings.Repeat("\n", api.MaxBody-1) + `"`:     api.ErrLarge,
		"[" + strings.Repeat("-, ", api.MaxBody/3-1) + "-]": api.ErrLarge,
	} {
		if got, bad := prop.Read(s); bad != want || bad != api.OK && !isZero(got) {
			t.Errorf("Read(%.40q of %d) = %.40v, %d, want %d", s, len(s), got, bad, want)
		}
	}
}

// The forms of values as P2.2 has them: a model of Read.
var (
	dateForm   = regexp.MustCompile(`^([0-9]{4})-([0-9]{2})-([0-9]{2})`)
	spanForm   = regexp.MustCompile(`^[0-9]{4}-[0-9]{2}-[0-9]{2}\.\.[0-9]{4}-[0-9]{2}-[0-9]{2}`)
	wordForm   = regexp.MustCompile(`^(?:yes|no|-)`)
	numberForm = regexp.MustCompile(`^(?:0|-?[1-9][0-9]{0,9})`)
	stringForm = regexp.MustCompile(`^"(?:[^"\\]|\\"|\\\\)*"`)
	linkForm   = regexp.MustCompile(`^(?s)\[\[.*?\]\]`)
)

// modelItem gives the longest beginning of s that has the form of a value and no List.
func modelItem(s string) string {
	longest := ""
	for _, form := range []*regexp.Regexp{dateForm, spanForm, wordForm, numberForm, stringForm, linkForm} {
		if m := form.FindString(s); len(m) > len(longest) {
			longest = m
		}
	}
	return longest
}

func modelDate(s string) (api.Value, bool) {
	part := dateForm.FindStringSubmatch(s)
	year, _ := strconv.Atoi(part[1])
	month, _ := strconv.Atoi(part[2])
	date, _ := strconv.Atoi(part[3])
	n, found := modelDayOf(year, month, date)
	return day(n), found
}

// modelSingle gives the value of an item, and whether its dates are there.
func modelSingle(s string) (api.Value, bool) {
	switch {
	case spanForm.MatchString(s):
		from, right := modelDate(s)
		to, also := modelDate(s[12:])
		return span(from.Int, to.Int), right && also
	case dateForm.MatchString(s):
		return modelDate(s)
	case s == "-":
		return api.Value{}, true
	case s == "yes" || s == "no":
		return flag(len(s) - 2), true
	case s[0] == '"':
		inside := strings.NewReplacer(`\"`, `"`, `\\`, `\`).Replace(s[1 : len(s)-1])
		return str(inside), true
	case s[0] == '[':
		return link(s[2 : len(s)-2]), true
	}
	n, _ := strconv.Atoi(s)
	return num(n), true
}

func modelItems(s string) ([]string, bool) {
	if s == "[]" {
		return nil, true
	}
	var items []string
	for s = s[1:]; ; s = s[2:] {
		item := modelItem(s)
		items = append(items, item)
		s = s[len(item):]
		if item == "" || s == "]" {
			return items, item != ""
		}
		if !strings.HasPrefix(s, ", ") {
			return nil, false
		}
	}
}

func modelRead(s string) (api.Value, api.Errno) {
	var v api.Value
	dates := true
	if whole := modelItem(s); s != "" && whole == s && !strings.HasPrefix(s, "[[[") {
		v, dates = modelSingle(s)
	} else {
		if !strings.HasPrefix(s, "[") || strings.HasPrefix(s, "[[") && !strings.HasPrefix(s, "[[[") {
			return v, api.ErrSyntax
		}
		items, right := modelItems(s)
		if !right {
			return v, api.ErrSyntax
		}
		v.Kind = api.List
		for _, item := range items {
			single, right := modelSingle(item)
			v.Items = append(v.Items, single)
			dates = dates && right
		}
	}
	if !dates {
		return api.Value{}, api.ErrRange
	}
	if bad := prop.CheckValue(v); bad != api.OK {
		return api.Value{}, bad
	}
	return v, api.OK
}

func TestReadByModel(t *testing.T) {
	var d dice
	seen := map[api.Errno]int{}
	for range 300000 {
		s := d.word(7, "[", "]", "[[", "]]", ", ", ",", " ", "-", "yes", "no", "0", "1", "12", "9999999999", `"`, `"`, `\`, "a", "[[a]]", `"b"`,
			"2001-01-01", "2024-02-29", "2023-02-29", "..", "2001-01-01..2002-01-01", "\n", "|", "[[[", "]]]")
		got, bad := prop.Read(s)
		want, wantBad := modelRead(s)
		if !same(got, want) || bad != wantBad {
			t.Fatalf("Read(%q) = %v, %d, want %v, %d", s, got, bad, want, wantBad)
		}
		seen[bad]++
	}
	for _, e := range []api.Errno{api.OK, api.ErrSyntax, api.ErrRange, api.ErrForm, api.ErrByte, api.ErrKind, api.ErrOrder} {
		if seen[e] == 0 {
			t.Error("no string with", e)
		}
	}
}

func TestReadReadsWhatTextWrites(t *testing.T) {
	var d dice
	for range 50000 {
		v := d.value()
		s, bad := prop.Text(v)
		got, badToo := prop.Read(s)
		if !same(got, v) || bad != api.OK || badToo != api.OK {
			t.Fatalf("%v: %q, %d: %v, %d", v, s, bad, got, badToo)
		}
	}
}

// Z10: what Read does not refuse Text writes.
func TestReadReadsNothingElse(t *testing.T) {
	d := dice(5)
	for range 300000 {
		s := d.word(6, "[", "]", "[[", "]]", ", ", " ", "-", "yes", "0", "1", "12", `"`, `\`, "a", "[[a]]", `"b"`, "2001-01-01", "..")
		v, bad := prop.Read(s)
		if bad != api.OK {
			continue
		}
		if got, bad := prop.Text(v); got != s || bad != api.OK {
			t.Fatalf("%q: %v: %q, %d", s, v, got, bad)
		}
	}
}
