package ask

import (
	"florilegium/api"
	"florilegium/prop"
	"florilegium/text"
)

// Forms of conditions: which fields are used.
const (
	ofNothing = iota
	ofKids    // Kids
	ofOneKid  // Kids[0]
	ofWords   // Text
	ofNumber  // Num
	ofName    // Name
	ofValue   // Name and Value
)

// forms has the form of each operation.
var forms = [...]int{
	And: ofKids, Or: ofKids, Not: ofOneKid, Parent: ofOneKid, SomeKid: ofOneKid, SomeBelow: ofOneKid,
	Says: ofWords, LinksTo: ofWords, Tagged: ofWords, InPage: ofWords, IsPage: ofNothing,
	Deep: ofNumber, Under: ofNumber, Has: ofName, Equal: ofValue, Less: ofValue, More: ofValue,
}

// CheckCond says whether a condition is right.
func CheckCond(c Cond) api.Errno {
	if nodesLeft(c, MaxConds) < 0 {
		return api.ErrLarge
	}
	if nesting(c) > api.MaxDeep {
		return api.ErrDeep
	}
	return checkNodes(c)
}

// nodesLeft gives how many of some nodes are left after those of a condition: below 0,
// if it has more. It stops there, because a condition can be endless.
func nodesLeft(c Cond, most int) int {
	left := most - 1
	for i := 0; i < len(c.Kids) && left >= 0; i++ {
		left = nodesLeft(c.Kids[i], left)
	}
	return left
}

// nesting gives how deep a condition is nested.
func nesting(c Cond) int {
	deepest := 0
	for _, kid := range c.Kids {
		deepest = max(deepest, nesting(kid))
	}
	return deepest + 1
}

// checkNodes looks at each node, before its kids.
func checkNodes(c Cond) api.Errno {
	if bad := checkNode(c); bad != api.OK {
		return bad
	}
	for _, kid := range c.Kids {
		if bad := checkNodes(kid); bad != api.OK {
			return bad
		}
	}
	return api.OK
}

func checkNode(c Cond) api.Errno {
	if c.Op < And || c.Op > SomeBelow {
		return api.ErrKind
	}
	if hasUnused(c) || forms[c.Op] == ofOneKid && len(c.Kids) != 1 {
		return api.ErrForm
	}
	switch forms[c.Op] {
	case ofWords:
		return checkWords(c.Op, c.Text)
	case ofNumber:
		if c.Num < 0 || c.Num > api.MaxId {
			return api.ErrRange
		}
	case ofName:
		return prop.CheckName(c.Name)
	case ofValue:
		return checkValue(c)
	}
	return api.OK
}

// hasUnused asks whether a field that the operation does not use is not zero.
func hasUnused(c Cond) bool {
	switch forms[c.Op] {
	case ofKids, ofOneKid:
		c.Kids = nil
	case ofWords:
		c.Text = ""
	case ofNumber:
		c.Num = 0
	case ofName:
		c.Name = ""
	case ofValue:
		c.Name, c.Value = "", api.Value{}
	}
	v := c.Value
	return c.Name != "" || c.Text != "" || c.Num != 0 || len(c.Kids) > 0 ||
		v.Kind != 0 || v.Int != 0 || v.To != 0 || v.Text != "" || len(v.Items) > 0
}

func checkWords(op int, s string) api.Errno {
	switch op {
	case Says:
		if s == "" || len(s) > MaxWords {
			return api.ErrLarge
		}
		return text.Check(s)
	case Tagged:
		if !isTag(s) {
			return api.ErrName
		}
	default: // LinksTo, InPage
		if _, bad := text.LinkText(s, ""); bad != api.OK {
			return api.ErrName
		}
	}
	return api.OK
}

// isTag asks whether a span could have a tag.
func isTag(s string) bool {
	if len(s) > api.MaxTitle {
		return false
	}
	first := text.Spans("#" + s)[0]
	return first.Kind == text.Tag && first.Text == s
}

func checkValue(c Cond) api.Errno {
	if bad := prop.CheckName(c.Name); bad != api.OK {
		return bad
	}
	if c.Value.Kind == api.None {
		return api.ErrKind
	}
	return prop.CheckValue(c.Value)
}
