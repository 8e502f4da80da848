package day

import (
	"strings"

	"florilegium/api"
	"florilegium/prop"
)

// Fill gives a template with values in the place of its fields.
func Fill(s string, values []Pair, day int) (string, api.Errno) {
	pieces, _, bad := parseTemplate(s)
	if bad != api.OK {
		return "", bad
	}
	if bad := checkValues(values); bad != api.OK {
		return "", bad
	}
	if !isDay(day) {
		return "", api.ErrRange
	}
	known := ownValues(day)
	for _, v := range values {
		known[v.Name] = v.Value
	}
	var filled strings.Builder
	for _, p := range pieces {
		text, ok := p.filled(known)
		if !ok {
			return "", api.ErrNone
		}
		filled.WriteString(text)
	}
	if filled.Len() > api.MaxBody {
		return "", api.ErrLarge
	}
	return filled.String(), api.OK
}

func checkValues(values []Pair) api.Errno {
	if len(values) > MaxFields {
		return api.ErrLarge
	}
	seen := map[string]bool{}
	for _, v := range values {
		if !isFieldName(v.Name) {
			return api.ErrName
		}
		if seen[v.Name] {
			return api.ErrTwice
		}
		seen[v.Name] = true
		if len(v.Value) > api.MaxString {
			return api.ErrLarge
		}
	}
	return api.OK
}

// ownValues gives the values that a day has for names by itself.
func ownValues(day int) map[string]string {
	own := map[string]string{"weekday": weekdayNames[day%7]}
	putDate(own, "date", day)
	putDate(own, "tomorrow", day+1)
	putDate(own, "yesterday", day-1)
	return own
}

// putDate gives a name the date of a day, if it is one.
func putDate(values map[string]string, name string, day int) {
	if date, bad := prop.DateText(day); bad == api.OK {
		values[name] = date
	}
}

// filled gives what a piece becomes with some values; false: it is a field that has no value.
func (p piece) filled(values map[string]string) (string, bool) {
	if p.name == "" {
		return p.text, true
	}
	value, ok := values[p.name]
	if value == "" && p.hasOther {
		return p.text, true
	}
	return value, ok
}
