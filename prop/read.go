package prop

import (
	"slices"
	"strings"

	"florilegium/api"
)

// Read reads what Text writes.
func Read(s string) (api.Value, api.Errno) {
	if len(s) > api.MaxBody {
		return api.Value{}, api.ErrLarge
	}
	v, ok := parse(s)
	if !ok {
		return api.Value{}, api.ErrSyntax
	}
	if lacksDay(v) {
		return api.Value{}, api.ErrRange
	}
	return checked(v)
}

// checked gives a value, if it is right.
func checked(v api.Value) (api.Value, api.Errno) {
	if bad := CheckValue(v); bad != api.OK {
		return api.Value{}, bad
	}
	return v, api.OK
}

// parse gives the value of whose form s is, right or not. A date that is no
// day has become noDay.
func parse(s string) (v api.Value, ok bool) {
	form := anyOf(single(&v), list(&v))
	if strings.HasPrefix(s, "[[[") { // single would take it for a link with a bracket in its title
		form = list(&v)
	}
	if !reads(s, form) {
		return api.Value{}, false
	}
	return v, true
}

// single reads a value that is no List.
func single(v *api.Value) step {
	return anyOf(
		kindOf(v, api.Span, date(&v.Int), mark(".."), date(&v.To)),
		kindOf(v, api.Date, date(&v.Int)),
		kindOf(v, api.Number, number(&v.Int)),
		kindOf(v, api.Flag, oneOf(&v.Int, flagWords[0], flagWords[1])),
		kindOf(v, api.String, quoted(&v.Text)),
		kindOf(v, api.Link, linked(&v.Text)),
		kindOf(v, api.None, mark("-")),
	)
}

// kindOf reads a value of a kind by steps that leave what they read in its fields.
func kindOf(v *api.Value, kind int, fields ...step) step {
	form := all(fields...)
	return func(s string) (string, bool) {
		*v = api.Value{Kind: kind} // without what another kind has left
		return form(s)
	}
}

func quoted(into *string) step {
	return func(s string) (string, bool) {
		if !strings.HasPrefix(s, `"`) {
			return "", false
		}
		var inside strings.Builder
		for i := 1; i < len(s); i++ {
			if s[i] == '"' {
				*into = inside.String()
				return s[i+1:], true
			}
			if s[i] == '\\' {
				i++
				if i == len(s) || s[i] != '"' && s[i] != '\\' {
					return "", false
				}
			}
			inside.WriteByte(s[i])
		}
		return "", false
	}
}

func linked(into *string) step {
	return func(s string) (string, bool) {
		inside, ok := strings.CutPrefix(s, "[[")
		if !ok {
			return "", false
		}
		title, rest, ok := strings.Cut(inside, "]]")
		*into = title
		return rest, ok
	}
}

func list(v *api.Value) step {
	var item api.Value
	first := single(&item)
	later := all(mark(", "), first)
	return func(s string) (string, bool) {
		*v = api.Value{Kind: api.List}
		rest, ok := strings.CutPrefix(s, "[")
		next := first
		for ok && !strings.HasPrefix(rest, "]") {
			if rest, ok = next(rest); ok {
				v.Items = append(v.Items, item)
			}
			next = later
		}
		if !ok {
			return "", false
		}
		return rest[1:], true
	}
}

// lacksDay asks whether parse has found a date that is no day.
func lacksDay(v api.Value) bool {
	lacks := func(v api.Value) bool {
		from, to, ok := daysOf(v)
		return ok && (from == noDay || to == noDay)
	}
	return lacks(v) || slices.ContainsFunc(v.Items, lacks)
}

// ReadDate gives the day of what DateText writes.
func ReadDate(s string) (int, api.Errno) {
	var day int
	if !reads(s, date(&day)) {
		return 0, api.ErrSyntax
	}
	if day == noDay {
		return 0, api.ErrRange
	}
	return day, api.OK
}

func dayOrNone(year, month, date int) int {
	day, bad := DayOf(year, month, date)
	if bad != api.OK {
		return noDay
	}
	return day
}
