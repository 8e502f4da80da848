package prop

import (
	"slices"

	"florilegium/api"
)

// CheckTypes says whether types are right.
func CheckTypes(l []Type) api.Errno {
	if len(l) > MaxTypes {
		return api.ErrLarge
	}
	for i, t := range l {
		if bad := CheckName(t.Name); bad != api.OK {
			return bad
		}
		if hasType(l[:i], t.Name) {
			return api.ErrTwice
		}
		if bad := checkType(t); bad != api.OK {
			return bad
		}
	}
	return api.OK
}

func hasType(l []Type, name string) bool {
	return slices.ContainsFunc(l, func(t Type) bool { return t.Name == name })
}

// checkType says whether all but the name of a type is right.
func checkType(t Type) api.Errno {
	if !isKind(t.Kind) || t.Kind == api.None {
		return api.ErrKind
	}
	if len(t.Choices) > 0 && t.Kind != api.String {
		return api.ErrForm
	}
	if (t.Least != 0 || t.Most != 0) && t.Kind != api.Number {
		return api.ErrForm
	}
	if len(t.Choices) > MaxChoices {
		return api.ErrLarge
	}
	for i, choice := range t.Choices {
		if len(choice) > api.MaxString {
			return api.ErrLarge
		}
		if slices.Contains(t.Choices[:i], choice) {
			return api.ErrTwice
		}
	}
	if t.Most < t.Least {
		return api.ErrOrder
	}
	return api.OK
}

// Faults gives what is wrong in a list of properties by types.
func Faults(types []Type, l []api.Prop) ([]Fault, api.Errno) {
	if bad := CheckTypes(types); bad != api.OK {
		return nil, bad
	}
	if bad := CheckProps(l); bad != api.OK {
		return nil, bad
	}
	var faults []Fault
	for _, t := range types {
		if bad := faultOf(t, l); bad != api.OK {
			faults = append(faults, Fault{Name: t.Name, Error: bad})
		}
	}
	return faults, api.OK
}

func faultOf(t Type, l []api.Prop) api.Errno {
	at, found := position(l, t.Name)
	if !found {
		if t.Need {
			return api.ErrNone
		}
		return api.OK
	}
	v := l[at].Value
	if v.Kind != t.Kind {
		return api.ErrKind
	}
	if len(t.Choices) > 0 && !slices.Contains(t.Choices, v.Text) {
		return api.ErrName
	}
	if t.Least != 0 || t.Most != 0 {
		return checkRange(v.Int, t.Least, t.Most)
	}
	return api.OK
}
