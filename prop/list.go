package prop

import (
	"cmp"
	"slices"
	"strings"

	"florilegium/api"
)

// CheckName says whether s may be the name of a property.
func CheckName(s string) api.Errno {
	if s == "" || len(s) > api.MaxName || !isLetter(s[0]) {
		return api.ErrName
	}
	for i := range len(s) {
		if !isLetter(s[i]) && !isDigit(s[i]) && s[i] != '-' {
			return api.ErrName
		}
	}
	return api.OK
}

func isLetter(c byte) bool {
	return 'a' <= c && c <= 'z'
}

func isDigit(c byte) bool {
	return '0' <= c && c <= '9'
}

// CheckProps says whether l may be the properties of a block.
func CheckProps(l []api.Prop) api.Errno {
	if len(l) > api.MaxProps {
		return api.ErrLarge
	}
	for i, p := range l {
		if bad := CheckName(p.Name); bad != api.OK {
			return bad
		}
		if i > 0 && p.Name <= l[i-1].Name {
			return api.ErrOrder
		}
		if p.Value.Kind == api.None {
			return api.ErrKind
		}
		if bad := CheckValue(p.Value); bad != api.OK {
			return bad
		}
	}
	return api.OK
}

// Get gives the value of a name, of the first property that has it.
func Get(l []api.Prop, name string) (api.Value, bool) {
	for _, p := range l {
		if p.Name == name {
			return copyOf(p.Value), true
		}
	}
	return api.Value{}, false
}

// Put gives the list with another value for a name, or without the name, if that is None.
func Put(l []api.Prop, name string, v api.Value) ([]api.Prop, api.Errno) {
	if bad := CheckProps(l); bad != api.OK {
		return nil, bad
	}
	if bad := CheckName(name); bad != api.OK {
		return nil, bad
	}
	if bad := CheckValue(v); bad != api.OK {
		return nil, bad
	}
	put := without(l, name)
	if v.Kind == api.None {
		return put, api.OK
	}
	at, _ := position(put, name)
	put = slices.Insert(put, at, api.Prop{Name: name, Value: copyOf(v)})
	if len(put) > api.MaxProps {
		return nil, api.ErrLarge
	}
	return put, api.OK
}

// Drop gives the list without a name.
func Drop(l []api.Prop, name string) ([]api.Prop, api.Errno) {
	if bad := CheckProps(l); bad != api.OK {
		return nil, bad
	}
	if bad := CheckName(name); bad != api.OK {
		return nil, bad
	}
	if _, found := position(l, name); !found {
		return nil, api.ErrNone
	}
	return without(l, name), api.OK
}

// position gives where a name is in a right list, or would be.
func position(l []api.Prop, name string) (int, bool) {
	return slices.BinarySearchFunc(l, name, func(p api.Prop, name string) int {
		return cmp.Compare(p.Name, name)
	})
}

// without gives a new list of the properties that have another name.
func without(l []api.Prop, name string) []api.Prop {
	var others []api.Prop
	for _, p := range l {
		if p.Name != name {
			others = append(others, api.Prop{Name: p.Name, Value: copyOf(p.Value)})
		}
	}
	return others
}

// PropsText writes a list of properties.
func PropsText(l []api.Prop) (string, api.Errno) {
	if bad := CheckProps(l); bad != api.OK {
		return "", bad
	}
	var lines strings.Builder
	for _, p := range l {
		lines.WriteString(p.Name + ":: " + textOf(p.Value) + "\n")
	}
	return lines.String(), api.OK
}

// ReadProps reads what PropsText writes. The int is the line of ErrSyntax.
func ReadProps(s string) ([]api.Prop, int, api.Errno) {
	if len(s) > api.MaxBody {
		return nil, 0, api.ErrLarge
	}
	var l []api.Prop
	for s != "" {
		line, rest, ended := strings.Cut(s, "\n")
		p, ok := parseProp(line)
		if !ok || !ended {
			return nil, len(l) + 1, api.ErrSyntax
		}
		l = append(l, p)
		s = rest
	}
	if slices.ContainsFunc(l, func(p api.Prop) bool { return lacksDay(p.Value) }) {
		return nil, 0, api.ErrRange
	}
	if bad := CheckProps(l); bad != api.OK {
		return nil, 0, bad
	}
	return l, 0, api.OK
}

// parseProp gives the property of whose form a line is, right or not.
func parseProp(line string) (api.Prop, bool) {
	name, after, ok := strings.Cut(line, "::")
	written, spaced := strings.CutPrefix(after, " ")
	if !ok || !spaced || name == "" || strings.Contains(name, " ") {
		return api.Prop{}, false
	}
	v, ok := parse(written)
	return api.Prop{Name: name, Value: v}, ok
}
