package day

import (
	"slices"
	"strings"

	"florilegium/api"
)

// A piece of a template is a field, or, without a name, text that stays as it is.
type piece struct {
	name     string
	hasOther bool
	text     string // of a field its other
}

// CheckTemplate says whether s may be a template. The int is the position of ErrSyntax.
func CheckTemplate(s string) (int, api.Errno) {
	_, at, bad := parseTemplate(s)
	return at, bad
}

// Fields gives the names of a template's fields, rising.
func Fields(s string) ([]string, api.Errno) {
	pieces, _, bad := parseTemplate(s)
	if bad != api.OK {
		return nil, bad
	}
	var names []string
	for _, p := range pieces {
		if p.name != "" {
			names = append(names, p.name)
		}
	}
	slices.Sort(names)
	return slices.Compact(names), api.OK
}

// parseTemplate gives the pieces of a template, or CheckTemplate's error.
func parseTemplate(s string) (pieces []piece, wrong int, bad api.Errno) {
	if len(s) > api.MaxBody {
		return nil, 0, api.ErrLarge
	}
	fields := 0
	for at := 0; at < len(s); {
		braces := strings.Index(s[at:], "{{")
		if braces < 0 {
			pieces = append(pieces, piece{text: s[at:]})
			break
		}
		pieces = append(pieces, piece{text: s[at : at+braces]})
		at += braces + 2
		if strings.HasPrefix(s[at:], "{") {
			pieces = append(pieces, piece{text: "{{"})
			at++
			continue
		}
		field, end, ok := readField(s, at)
		if !ok {
			return nil, end, api.ErrSyntax
		}
		pieces = append(pieces, field)
		fields++
		at = end
	}
	if fields > MaxFields {
		return nil, 0, api.ErrLarge
	}
	return pieces, 0, api.OK
}

// readField reads a field from behind its first two braces on. It gives where the field ends,
// or, if it is none, where the first byte is, or the end, that cannot be there.
func readField(s string, at int) (field piece, end int, ok bool) {
	end = nameEnd(s, at)
	if end == at {
		return piece{}, end, false
	}
	field.name = s[at:end]
	if strings.HasPrefix(s[end:], "|") {
		from := end + 1
		end = otherEnd(s, from)
		field.hasOther, field.text = true, s[from:end]
	}
	for range 2 {
		if !strings.HasPrefix(s[end:], "}") {
			return piece{}, end, false
		}
		end++
	}
	return field, end, true
}

// nameEnd gives the end of the bytes from a position on that a field's name can have.
func nameEnd(s string, at int) int {
	end := at
	for end < len(s) && end < at+api.MaxName && isNameByte(s[end]) {
		end++
	}
	return end
}

func isFieldName(s string) bool {
	return s != "" && nameEnd(s, 0) == len(s)
}

func isNameByte(c byte) bool {
	return 'a' <= c && c <= 'z' || '0' <= c && c <= '9' || c == '-'
}

// otherEnd gives the end of the bytes from a position on that a field's other can have.
func otherEnd(s string, at int) int {
	length := strings.IndexAny(s[at:], "{}\n")
	if length < 0 {
		return len(s)
	}
	return at + length
}
