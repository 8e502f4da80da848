package prop

import (
	"slices"
	"strconv"
	"strings"

	"florilegium/api"
	"florilegium/text"
)

// CheckValue says whether a value is right.
func CheckValue(v api.Value) api.Errno {
	if bad := checkFields(v); bad != api.OK {
		return bad
	}
	if len(v.Items) > api.MaxItems {
		return api.ErrLarge
	}
	for _, item := range v.Items {
		if item.Kind == api.None || item.Kind == api.List {
			return api.ErrKind
		}
		if bad := checkFields(item); bad != api.OK {
			return bad
		}
	}
	return api.OK
}

// checkFields is CheckValue without a look at the Items.
func checkFields(v api.Value) api.Errno {
	if !isKind(v.Kind) {
		return api.ErrKind
	}
	if hasUnused(v) {
		return api.ErrForm
	}
	switch v.Kind {
	case api.Flag:
		return checkRange(v.Int, 0, 1)
	case api.Number:
		return checkRange(v.Int, -api.MaxNumber, api.MaxNumber)
	case api.Date:
		return checkRange(v.Int, 0, api.MaxDay)
	case api.Span:
		_, _, bad := days(v.Int, v.To)
		return bad
	case api.String:
		return text.Check(v.Text)
	case api.Link:
		return checkTitle(v.Text)
	}
	return api.OK
}

func isKind(kind int) bool {
	return api.None <= kind && kind <= api.List
}

// hasUnused asks whether a field that the kind does not use is not zero.
func hasUnused(v api.Value) bool {
	var usesInt, usesTo, usesText, usesItems bool
	switch v.Kind {
	case api.Flag, api.Number, api.Date:
		usesInt = true
	case api.Span:
		usesInt, usesTo = true, true
	case api.String, api.Link:
		usesText = true
	case api.List:
		usesItems = true
	}
	return v.Int != 0 && !usesInt || v.To != 0 && !usesTo || v.Text != "" && !usesText || len(v.Items) > 0 && !usesItems
}

func checkRange(n, least, most int) api.Errno {
	if n < least || n > most {
		return api.ErrRange
	}
	return api.OK
}

func checkTitle(s string) api.Errno {
	if len(s) > api.MaxTitle {
		return api.ErrLarge
	}
	if bad := text.Check(s); bad != api.OK {
		return bad
	}
	if s == "" || s != strings.Trim(s, " ") || strings.ContainsAny(s, "[]|") {
		return api.ErrForm
	}
	return api.OK
}

// Text writes a value.
func Text(v api.Value) (string, api.Errno) {
	if bad := CheckValue(v); bad != api.OK {
		return "", bad
	}
	return textOf(v), api.OK
}

// textOf is Text of a right value.
func textOf(v api.Value) string {
	switch v.Kind {
	case api.Flag:
		return flagWords[v.Int]
	case api.Number:
		return strconv.Itoa(v.Int)
	case api.String:
		return `"` + escapeQuotes(v.Text) + `"`
	case api.Date:
		return dateText(v.Int)
	case api.Span:
		return dateText(v.Int) + ".." + dateText(v.To)
	case api.Link:
		return "[[" + v.Text + "]]"
	case api.List:
		texts := make([]string, len(v.Items))
		for i, item := range v.Items {
			texts[i] = textOf(item)
		}
		return "[" + strings.Join(texts, ", ") + "]"
	}
	return "-"
}

// flagWords has what Text writes for the Int of a Flag.
var flagWords = [2]string{"no", "yes"}

func escapeQuotes(s string) string {
	var escaped strings.Builder
	for i := range len(s) {
		if s[i] == '"' || s[i] == '\\' {
			escaped.WriteByte('\\')
		}
		escaped.WriteByte(s[i])
	}
	return escaped.String()
}

// copyOf gives a value that shares no memory with v. It keeps a list of what
// is still to be copied: a wrong value can be nested deeper than calls can be.
func copyOf(v api.Value) api.Value {
	todo := []*api.Value{&v}
	for len(todo) > 0 {
		last := todo[len(todo)-1]
		todo = todo[:len(todo)-1]
		if len(last.Items) == 0 {
			last.Items = nil
			continue
		}
		last.Items = slices.Clone(last.Items)
		for i := range last.Items {
			todo = append(todo, &last.Items[i])
		}
	}
	return v
}
