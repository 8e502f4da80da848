package ask

import (
	"strconv"
	"strings"

	"florilegium/api"
	"florilegium/prop"
)

// ReadCond reads what CondText writes.
func ReadCond(s string) (Cond, api.Errno) {
	if len(s) > api.MaxBody {
		return Cond{}, api.ErrLarge
	}
	c, ok := parseCond(s)
	if !ok {
		return Cond{}, api.ErrSyntax
	}
	if bad := CheckCond(c); bad != api.OK {
		return Cond{}, bad
	}
	return c, api.OK
}

// parseCond gives the condition of whose form s is, right or not. It keeps a list of
// those whose brackets are open: they can be nested deeper than calls can be.
func parseCond(s string) (Cond, bool) {
	var open []Cond
	for {
		c, rest, ok := cutNode(s)
		if !ok {
			return Cond{}, false
		}
		if hasBrackets(c) {
			after, closes := strings.CutPrefix(rest, ")")
			if !closes {
				open, s = append(open, c), rest
				continue
			}
			rest = after
		}
		open, c, rest = closeAll(open, c, rest)
		if len(open) == 0 {
			return c, rest == ""
		}
		if s, ok = strings.CutPrefix(rest, ", "); !ok {
			return Cond{}, false
		}
	}
}

func hasBrackets(c Cond) bool {
	return forms[c.Op] == ofKids || forms[c.Op] == ofOneKid
}

// closeAll gives a condition that is read to the one around it, that one to the next one, and
// so on as long as brackets close. It gives those that are still open; if none is, the last one.
func closeAll(open []Cond, c Cond, rest string) ([]Cond, Cond, string) {
	for len(open) > 0 {
		around := &open[len(open)-1]
		around.Kids = append(around.Kids, c)
		after, closes := strings.CutPrefix(rest, ")")
		if !closes {
			break
		}
		c, rest, open = *around, after, open[:len(open)-1]
	}
	return open, c, rest
}

// cutNode reads the condition that s begins with, of one with brackets all before its Kids.
func cutNode(s string) (c Cond, rest string, ok bool) {
	for c.Op = And; c.Op <= SomeBelow; c.Op++ {
		if rest, ok = strings.CutPrefix(s, openings[c.Op]); ok {
			break
		}
	}
	if !ok {
		return Cond{}, "", false
	}
	switch forms[c.Op] {
	case ofWords:
		c.Text, rest, ok = cutString(rest)
	case ofNumber:
		c.Num, rest, ok = cutNumber(rest)
	case ofName:
		c.Name, rest = cutName(rest)
		rest, ok = strings.CutPrefix(rest, ")")
	case ofValue:
		c.Name, rest = cutName(rest)
		c.Op, rest, ok = cutSign(rest)
		if ok {
			c.Value, rest, ok = cutValue(rest)
		}
	}
	return c, rest, ok
}

// cutString reads the rest of a String whose first quote is read.
func cutString(s string) (words, rest string, ok bool) {
	end := stringEnd(s)
	if end == len(s) {
		return "", "", false
	}
	words, ok = unescaped(s[:end])
	return words, s[end+1:], ok
}

// stringEnd gives where the closing quote of a String is whose first quote is read, or, if
// there is none, the end of s.
func stringEnd(s string) int {
	for at := 0; at < len(s); at++ {
		if s[at] == '"' {
			return at
		}
		if s[at] == '\\' {
			at++
		}
	}
	return len(s)
}

// cutNumber reads a number of at most 9 digits.
func cutNumber(s string) (number int, rest string, ok bool) {
	rest = strings.TrimLeft(s, "0123456789")
	digits := s[:len(s)-len(rest)]
	number, _ = strconv.Atoi(digits)
	return number, rest, len(digits) <= 9 && strconv.Itoa(number) == digits
}

func cutName(s string) (name, rest string) {
	end := strings.IndexAny(s, " )")
	if end < 0 {
		end = len(s)
	}
	return s[:end], s[end:]
}

// cutSign reads what stands between a name and a value, and gives the operation.
func cutSign(s string) (op int, rest string, ok bool) {
	for op := Equal; op <= More; op++ {
		if rest, ok := strings.CutPrefix(s, signs[op]); ok {
			return op, rest, true
		}
	}
	return 0, "", false
}

func cutValue(s string) (v api.Value, rest string, ok bool) {
	end := valueEnd(s)
	v, bad := prop.Read(s[:end])
	return v, s[end:], bad == api.OK
}

// valueEnd gives where the value ends that s begins with: before the first comma or
// bracket that is not within a String, a link or a List.
func valueEnd(s string) int {
	inList := strings.HasPrefix(s, "[") && !strings.HasPrefix(s, "[[") || strings.HasPrefix(s, "[[[")
	for at := 0; at < len(s); {
		switch {
		case s[at] == '"':
			at += stringEnd(s[at+1:]) + 2
		case strings.HasPrefix(s[at:], "[["):
			at += linkLength(s[at:])
		case !inList && (s[at] == ',' || s[at] == ')'):
			return at
		default:
			inList = inList && s[at] != ']'
			at++
		}
	}
	return len(s)
}

// linkLength gives how long the link is that s begins with, or, if it has no end, s.
func linkLength(s string) int {
	end := strings.Index(s, "]]")
	if end < 0 {
		return len(s)
	}
	return end + 2
}
