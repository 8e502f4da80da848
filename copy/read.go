package copy

import (
	"math"
	"strconv"
	"strings"

	"florilegium/api"
	"florilegium/prop"
)

// ReadOps reads what OpsText writes.
func ReadOps(s string) ([]Op, api.Errno) {
	if len(s) > api.MaxBody {
		return nil, api.ErrLarge
	}
	var l []Op
	for s != "" {
		line, rest, ended := strings.Cut(s, "\n")
		o, ok := parseOp(line)
		if !ok || !ended {
			return nil, api.ErrSyntax
		}
		l = append(l, o)
		s = rest
	}
	// What OpsText writes of these is as long as s was, so it has no other errors.
	if bad := checkOps(l); bad != api.OK {
		return nil, bad
	}
	return l, api.OK
}

// parseOp gives the operation of whose form a line is, right or not.
func parseOp(line string) (Op, bool) {
	r := reader{rest: line}
	o := Op{Stamp: r.stamp(), Kind: r.kind(), Id: r.number()}
	switch o.Kind {
	case Insert:
		o.Parent, o.Left, o.Octets = r.number(), r.number(), r.octets()
	case Move:
		o.Parent, o.Left = r.number(), r.number()
	case Type:
		o.After, o.Octets = r.spot(), r.octets()
	case Erase:
		for r.more {
			o.Spots = append(o.Spots, r.spot())
		}
	case SetProp:
		o.Name, o.Value = r.name(), r.value()
	}
	return o, !r.more && !r.wrong
}

// A reader takes a line apart, and keeps in mind if something is not of the form.
type reader struct {
	rest        string
	more, wrong bool // more: after the last word there is another one, be it an empty one
}

// word reads up to the next space. If no word is left it is empty, which nothing
// can be made of.
func (r *reader) word() string {
	var word string
	word, r.rest, r.more = strings.Cut(r.rest, " ")
	return word
}

// number reads a number. One that is beyond all bounds can become another one
// that is, too, as not every int has room for 10 digits.
func (r *reader) number() int {
	word := r.word()
	n, bad := strconv.ParseUint(word, 10, 64)
	if bad != nil || len(word) > 10 || word != "0" && word[0] == '0' {
		r.wrong = true
	}
	return int(min(n, math.MaxInt32))
}

func (r *reader) stamp() Stamp {
	return Stamp{Time: r.number(), Copy: r.number()}
}

func (r *reader) spot() Spot {
	return Spot{Stamp: r.stamp(), At: r.number()}
}

func (r *reader) kind() int {
	word := r.word()
	for i, known := range kindWords {
		if word == known {
			return Insert + i
		}
	}
	r.wrong = true
	return 0
}

func (r *reader) name() string {
	name := r.word()
	r.wrong = r.wrong || name == ""
	return name
}

// value reads all that is left of the line.
func (r *reader) value() api.Value {
	v, bad := prop.Read(r.rest)
	r.wrong = r.wrong || bad != api.OK
	r.more = false
	return v
}

func (r *reader) octets() string {
	v := r.value()
	r.wrong = r.wrong || v.Kind != api.String
	return v.Text
}
