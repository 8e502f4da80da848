package ask

import (
	"strconv"
	"strings"

	"florilegium/api"
	"florilegium/prop"
)

// openings has what the string of each operation begins with.
var openings = [...]string{
	And: "all(", Or: "any(", Not: "not(", Parent: "parent(", SomeKid: "kid(", SomeBelow: "below(",
	Says: `says "`, LinksTo: `links "`, Tagged: `tag "`, InPage: `page "`, IsPage: "is-page",
	Deep: "deep ", Under: "under ", Has: "has(", Equal: ".", Less: ".", More: ".",
}

// signs has what stands between a name and a value.
var signs = [...]string{Equal: " = ", Less: " < ", More: " > "}

// CondText writes a condition.
func CondText(c Cond) (string, api.Errno) {
	if bad := CheckCond(c); bad != api.OK {
		return "", bad
	}
	s := condText(c)
	if len(s) > api.MaxBody {
		return "", api.ErrLarge
	}
	return s, api.OK
}

// condText is CondText of a right condition, however long it is.
func condText(c Cond) string {
	opening := openings[c.Op]
	switch forms[c.Op] {
	case ofKids, ofOneKid:
		texts := make([]string, len(c.Kids))
		for i, kid := range c.Kids {
			texts[i] = condText(kid)
		}
		return opening + strings.Join(texts, ", ") + ")"
	case ofWords:
		return opening + escaped(c.Text) + `"`
	case ofNumber:
		return opening + strconv.Itoa(c.Num)
	case ofName:
		return opening + c.Name + ")"
	case ofValue:
		value, _ := prop.Text(c.Value)
		return opening + c.Name + signs[c.Op] + value
	}
	return opening
}

// escaped writes what stands between the quotes of a String. (prop.Text does not
// write a byte 127, which a title can have.)
func escaped(s string) string {
	return strings.NewReplacer(`\`, `\\`, `"`, `\"`).Replace(s)
}

// unescaped reads what escaped writes.
func unescaped(inside string) (string, bool) {
	s := strings.NewReplacer(`\\`, `\`, `\"`, `"`).Replace(inside)
	return s, escaped(s) == inside
}
