package prop

import (
	"strings"

	"florilegium/api"
)

// ReadAs reads what somebody types for a value of a kind.
func ReadAs(kind int, s string, today int) (api.Value, api.Errno) {
	if !isKind(kind) {
		return api.Value{}, api.ErrKind
	}
	if len(s) > api.MaxBody {
		return api.Value{}, api.ErrLarge
	}
	if !isDay(today) {
		return api.Value{}, api.ErrRange
	}
	v, bad := typed(kind, strings.Trim(s, " "), today)
	if bad != api.OK {
		return api.Value{}, bad
	}
	return checked(v)
}

// typed gives the value of a kind for which somebody types s, right or not.
func typed(kind int, s string, today int) (api.Value, api.Errno) {
	v := api.Value{Kind: kind}
	ok := true
	switch kind {
	case api.None:
		ok = s == ""
	case api.Flag:
		v.Int, ok = typedFlag(s)
	case api.Number:
		ok = reads(s, number(&v.Int))
	case api.String, api.Link:
		v.Text = s
	case api.Date:
		return typedDate(s, today)
	case api.Span:
		var bad api.Errno
		v.Int, v.To, bad = ReadWhen(s, today)
		return v, bad
	case api.List:
		v.Items, ok = typedItems(s)
	}
	if !ok {
		return api.Value{}, api.ErrSyntax
	}
	return v, api.OK
}

func typedFlag(s string) (int, bool) {
	switch lower(s) {
	case "yes", "true", "on":
		return 1, true
	case "no", "false", "off":
		return 0, true
	}
	return 0, false
}

func typedDate(s string, today int) (api.Value, api.Errno) {
	from, to, bad := ReadWhen(s, today)
	if bad != api.OK {
		return api.Value{}, bad
	}
	if from != to {
		return api.Value{}, api.ErrSyntax
	}
	return api.Value{Kind: api.Date, Int: from}, api.OK
}

func typedItems(s string) ([]api.Value, bool) {
	if s == "" {
		return nil, true
	}
	var items []api.Value
	for _, part := range strings.Split(s, ",") {
		item := strings.Trim(part, " ")
		if item == "" {
			return nil, false
		}
		items = append(items, api.Value{Kind: api.String, Text: item})
	}
	return items, true
}

// lower makes A to Z small. (Those of package strings do so with other
// letters, too, some of which become one from a to z.)
func lower(s string) string {
	b := []byte(s)
	for i, c := range b {
		if 'A' <= c && c <= 'Z' {
			b[i] = c - 'A' + 'a'
		}
	}
	return string(b)
}
