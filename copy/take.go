package copy

import (
	"slices"

	"florilegium/api"
	"florilegium/prop"
)

// Take adds operations of others, and says how many of them were new.
func (c *Copy) Take(l []Op) (int, api.Errno) {
	if bad := checkOps(l); bad != api.OK {
		return 0, bad
	}
	var others []Op
	taken := map[Stamp]Op{}
	for _, o := range l {
		same, known := c.find(o.Stamp)
		if !known {
			same, known = taken[o.Stamp]
		}
		if known && !areEqual(o, same) {
			return 0, api.ErrTwice
		}
		if !known {
			taken[o.Stamp] = o
			others = append(others, o)
		}
	}
	if len(others) > MaxOps-len(c.ops) {
		return 0, api.ErrFull
	}
	c.learn(others)
	return len(others), api.OK
}

// areEqual asks whether two right operations are equal in all.
func areEqual(a, b Op) bool {
	return a.Stamp == b.Stamp && a.Kind == b.Kind && a.Id == b.Id && a.Parent == b.Parent && a.Left == b.Left &&
		a.After == b.After && a.Octets == b.Octets && slices.Equal(a.Spots, b.Spots) &&
		a.Name == b.Name && prop.Compare(a.Value, b.Value) == 0
}

// Knows gives what a copy knows of each one.
func (c *Copy) Knows() Knows {
	k := make(Knows, MaxCopies)
	for _, o := range c.ops {
		k[o.Stamp.Copy] = o.Stamp.Time // a later one has a greater time
	}
	return k
}

// Since gives the operations that are not among those that somebody knows.
func (c *Copy) Since(k Knows) ([]Op, api.Errno) {
	if slices.ContainsFunc(k, func(time int) bool { return time < 0 }) {
		return nil, api.ErrRange
	}
	var others []Op
	for _, o := range c.ops {
		if o.Stamp.Time > k.of(o.Stamp.Copy) {
			others = append(others, o)
		}
	}
	return copiesOf(others), api.OK
}

// of gives what is known of a copy.
func (k Knows) of(number int) int {
	if number >= len(k) {
		return 0
	}
	return k[number]
}

// Meet gives what two know both.
func Meet(a, b Knows) Knows {
	both := make(Knows, max(len(a), len(b)))
	for i := range both {
		both[i] = min(a.of(i), b.of(i))
	}
	return both
}
