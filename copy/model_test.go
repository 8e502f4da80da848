package copy_test

import (
	"fmt"
	"regexp"
	"slices"
	"strconv"
	"strings"
	"testing"

	"florilegium/api"
	"florilegium/copy"
	"florilegium/prop"
	"florilegium/text"
	"florilegium/tree"
)

// The chapter once more, slowly: each rule by itself, each octet by itself.

// modelCheck is CheckOp.
func modelCheck(o copy.Op) api.Errno {
	rightStamp := func(s copy.Stamp) bool {
		return s.Time >= 1 && s.Time <= copy.MaxTime && s.Copy >= 0 && s.Copy <= 15
	}
	rightSpot := func(s copy.Spot) bool {
		before := s.Stamp.Time < o.Stamp.Time || s.Stamp.Time == o.Stamp.Time && s.Stamp.Copy < o.Stamp.Copy
		return rightStamp(s.Stamp) && before && s.At >= 0 && s.At <= 2000
	}
	is := func(kinds ...int) bool { return slices.Contains(kinds, o.Kind) }
	outside := func(n int) bool { return n < 0 || n > 1_000_000 }
	wrongSpot := slices.ContainsFunc(o.Spots, func(s copy.Spot) bool { return !rightSpot(s) })
	unordered := false
	for i := range max(0, len(o.Spots)-1) {
		a, b := o.Spots[i], o.Spots[i+1]
		unordered = unordered || slices.Compare([]int{a.Stamp.Time, a.Stamp.Copy, a.At}, []int{b.Stamp.Time, b.Stamp.Copy, b.At}) >= 0
	}
	for _, rule := range []struct {
		broken bool
		bad    api.Errno
	}{
		{!rightStamp(o.Stamp), api.ErrRange},
		{!is(1, 2, 3, 4, 5, 6), api.ErrKind},
		{!is(copy.Insert, copy.Move) && (o.Parent != 0 || o.Left != 0), api.ErrForm},
		{!is(copy.Type) && !equal(o.After, copy.Spot{}), api.ErrForm},
		{!is(copy.Insert, copy.Type) && len(o.Octets) > 0, api.ErrForm},
		{!is(copy.Erase) && len(o.Spots) > 0, api.ErrForm},
		{!is(copy.SetProp) && (o.Name != "" || !equal(o.Value, api.Value{})), api.ErrForm},
		{o.Id < 1 || o.Id > 1_000_000, api.ErrRange},
		{is(copy.Insert) && (o.Id-o.Stamp.Copy)%16 != 0, api.ErrForm},
		{is(copy.Insert, copy.Move) && (outside(o.Parent) || outside(o.Left)), api.ErrRange},
		{is(copy.Insert, copy.Move) && (o.Parent == o.Id || o.Left == o.Id), api.ErrLoop},
		{is(copy.Insert) && text.Check(o.Octets) != api.OK, text.Check(o.Octets)},
		{is(copy.Type) && (o.Octets == "" || len(o.Octets) > 500), api.ErrLarge},
		{is(copy.Type) && strings.ContainsFunc(strings.ReplaceAll(o.Octets, "\x7f", "\x00"), func(r rune) bool { return r < 32 }), api.ErrByte},
		{is(copy.Type) && !equal(o.After, copy.Spot{}) && !rightSpot(o.After), api.ErrStamp},
		{is(copy.Erase) && wrongSpot, api.ErrStamp},
		{is(copy.Erase) && (len(o.Spots) == 0 || len(o.Spots) > 500), api.ErrLarge},
		{is(copy.Erase) && unordered, api.ErrOrder},
		{is(copy.SetProp) && prop.CheckName(o.Name) != api.OK, api.ErrName},
		{is(copy.SetProp), prop.CheckValue(o.Value)},
	} {
		if rule.broken {
			return rule.bad
		}
	}
	return api.OK
}

// The forms of a number with a space before it, and of a line.
const oneMore = ` (0|[1-9][0-9]{0,9})`
const threeMore = oneMore + oneMore + oneMore

var lineForm = regexp.MustCompile(`^(0|[1-9][0-9]{0,9})` + oneMore + `(?: (insert)` + threeMore + ` (".*)| (move)` + threeMore + `| (remove)` + oneMore +
	`| (type)` + oneMore + threeMore + ` (".*)| (erase)` + oneMore + `((?:` + threeMore + `)*)| (set)` + oneMore + ` ([^ ]+) (.*))$`)

// modelRead is ReadOps of strings that are not too long.
func modelRead(s string) ([]copy.Op, api.Errno) {
	number := func(s string) int {
		n, _ := strconv.Atoi(s)
		return n
	}
	var l []copy.Op
	lines := strings.SplitAfter(s, "\n")
	for _, line := range lines[:len(lines)-1] {
		m := lineForm.FindStringSubmatch(line[:len(line)-1])
		if m == nil {
			return nil, api.ErrSyntax
		}
		o := copy.Op{Stamp: at(number(m[1]), number(m[2]))}
		written := "-"
		switch {
		case m[3] != "":
			o.Kind, o.Id, o.Parent, o.Left, written = copy.Insert, number(m[4]), number(m[5]), number(m[6]), m[7]
		case m[8] != "":
			o.Kind, o.Id, o.Parent, o.Left = copy.Move, number(m[9]), number(m[10]), number(m[11])
		case m[12] != "":
			o.Kind, o.Id = copy.Remove, number(m[13])
		case m[14] != "":
			o.Kind, o.Id, o.After, written = copy.Type, number(m[15]), spot(number(m[16]), number(m[17]), number(m[18])), m[19]
		case m[20] != "":
			o.Kind, o.Id = copy.Erase, number(m[21])
			words := strings.Fields(m[22])
			for ; len(words) > 0; words = words[3:] {
				o.Spots = append(o.Spots, spot(number(words[0]), number(words[1]), number(words[2])))
			}
		default:
			o.Kind, o.Id, o.Name, written = copy.SetProp, number(m[27]), m[28], m[29]
		}
		v, bad := prop.Read(written)
		if bad != api.OK {
			return nil, api.ErrSyntax
		}
		if o.Kind == copy.SetProp {
			o.Value = v
		} else {
			o.Octets = v.Text
		}
		l = append(l, o)
	}
	if lines[len(lines)-1] != "" {
		return nil, api.ErrSyntax
	}
	for _, o := range l {
		if bad := modelCheck(o); bad != api.OK {
			return nil, bad
		}
	}
	return l, api.OK
}

// An octet of a text, shown or erased.
type octet struct {
	spot   copy.Spot
	octet  string
	erased bool
}

// A node is a block.
type node struct {
	id, parent int
	gone       bool
	text       []octet
	props      map[string]api.Value
}

// A model has the blocks, and the kids of each one.
type model struct {
	nodes map[int]*node
	kids  map[int][]int
}

// modelOf does operations.
func modelOf(l []copy.Op) *model {
	m := &model{nodes: map[int]*node{0: {parent: -1}}, kids: map[int][]int{}}
	l = slices.Clone(l)
	slices.SortFunc(l, func(a, b copy.Op) int {
		return slices.Compare([]int{a.Stamp.Time, a.Stamp.Copy}, []int{b.Stamp.Time, b.Stamp.Copy})
	})
	for _, o := range l {
		m.do(o)
	}
	return m
}

func (m *model) do(o copy.Op) {
	n := m.nodes[o.Id]
	if o.Kind == copy.Insert {
		if n == nil && m.nodes[o.Parent] != nil {
			n = &node{id: o.Id, props: map[string]api.Value{}}
			m.nodes[o.Id] = n
			n.insert(0, o)
			m.place(n, o)
		}
		return
	}
	if n == nil {
		return
	}
	switch o.Kind {
	case copy.Move:
		if m.nodes[o.Parent] == nil || slices.Contains(m.above(o.Parent), o.Id) {
			return
		}
		m.kids[n.parent] = slices.DeleteFunc(m.kids[n.parent], func(kid int) bool { return kid == o.Id })
		m.place(n, o)
	case copy.Remove:
		n.gone = true
	case copy.Type:
		where := 1 + slices.IndexFunc(n.text, func(x octet) bool { return x.spot == o.After })
		if where == 0 && o.After.Stamp.Time != 0 {
			where = len(n.text)
		}
		n.insert(where, o)
	case copy.Erase:
		for i, x := range n.text {
			n.text[i].erased = x.erased || slices.Contains(o.Spots, x.spot)
		}
	case copy.SetProp:
		n.props[o.Name] = o.Value
	}
}

// insert puts the octets of an operation into the text.
func (n *node) insert(where int, o copy.Op) {
	for i := range len(o.Octets) {
		n.text = slices.Insert(n.text, where+i, octet{copy.Spot{Stamp: o.Stamp, At: i}, o.Octets[i : i+1], false})
	}
}

func (m *model) place(n *node, o copy.Op) {
	kids := m.kids[o.Parent]
	where := len(kids)
	if slices.Contains(kids, o.Left) {
		where = slices.Index(kids, o.Left) + 1
	} else if o.Left == 0 {
		where = 0
	}
	m.kids[o.Parent] = slices.Insert(kids, where, n.id)
	n.parent, n.gone = o.Parent, false
}

// above gives a block, and all that it is below, gone or not.
func (m *model) above(id int) []int {
	var ids []int
	for ; id >= 0; id = m.nodes[id].parent {
		ids = append(ids, id)
	}
	return ids
}

// spots gives what is shown of a text.
func (n *node) spots() []copy.Spot {
	var spots []copy.Spot
	for _, x := range n.text {
		if !x.erased && len(spots) < 2000 {
			spots = append(spots, x.spot)
		}
	}
	return spots
}

// shown gives the ids of all blocks of the base but the root, in its order.
func (m *model) shown() []int {
	var order []int
	var below func(id int)
	below = func(id int) {
		kids := 0
		for _, kid := range m.kids[id] {
			if kids < 500 && !m.nodes[kid].gone {
				kids++
				order = append(order, kid)
				below(kid)
			}
		}
	}
	below(0)
	order = slices.DeleteFunc(order, func(id int) bool { return len(m.above(id))-1 > 40 })
	return order[:min(len(order), 1999)]
}

// base gives the base, and the blocks that are gone.
func (m *model) base() ([]api.Block, []int) {
	shown := append([]int{0}, m.shown()...)
	var gone []int
	var base []api.Block
	for id := range api.MaxId + 1 {
		n := m.nodes[id]
		if len(base)+len(gone) == len(m.nodes) {
			break
		}
		if n == nil {
			continue
		}
		if !slices.Contains(shown, id) {
			gone = append(gone, id)
			continue
		}
		b := api.Block{Id: id, Parent: max(0, n.parent)}
		for _, kid := range m.kids[id] {
			if slices.Contains(shown, kid) {
				b.Kids = append(b.Kids, kid)
			}
		}
		spots := n.spots()
		for _, x := range n.text {
			if slices.Contains(spots, x.spot) {
				b.Text += x.octet
			}
		}
		b.Props = n.shownProps()
		base = append(base, b)
	}
	return base, gone
}

func (n *node) shownProps() []api.Prop {
	var props []api.Prop
	for name, v := range n.props {
		if v.Kind != api.None {
			props = append(props, api.Prop{Name: name, Value: v})
		}
	}
	slices.SortFunc(props, func(a, b api.Prop) int { return strings.Compare(a.Name, b.Name) })
	return props[:min(len(props), 20)]
}

// modelDo is Do of a copy with a number that knows some operations, and has a time.
func modelDo(l []copy.Op, number int, o tree.Op) ([]copy.Op, api.Errno) {
	m := modelOf(l)
	base, gone := m.base()
	wanted, bad := tree.Apply(base, o)
	if bad != api.OK {
		return nil, bad
	}
	time := timeOf(l)
	if o.Kind == tree.Insert && (o.Id-number)%16 != 0 {
		return nil, api.ErrForm
	}
	if o.Kind == tree.Insert && slices.Contains(gone, o.Id) {
		return nil, api.ErrTwice
	}
	made := m.translated(o, wanted)
	for i := range made {
		made[i].Stamp = at(time+1+i, number)
		if made[i].After.Stamp.Time < 0 {
			made[i].After.Stamp = made[i-1].Stamp
		}
	}
	if len(l)+len(made) > 4000 {
		return nil, api.ErrFull
	}
	if time+len(made) > 1_000_000_000 {
		return nil, api.ErrLarge
	}
	after, _ := modelOf(append(slices.Clone(l), made...)).base()
	if !equal(after, wanted) {
		return nil, api.ErrState
	}
	return made, api.OK
}

// translated gives operations without stamps. An After with the time -1 is in the operation before.
func (m *model) translated(o tree.Op, wanted []api.Block) []copy.Op {
	left := 0
	if parent, _ := tree.Get(wanted, o.Parent); o.At > 0 {
		left = parent.Kids[o.At-1]
	}
	switch o.Kind {
	case tree.Insert:
		return []copy.Op{{Kind: copy.Insert, Id: o.Id, Parent: o.Parent, Left: left, Octets: o.Text}}
	case tree.Remove:
		return []copy.Op{{Kind: copy.Remove, Id: o.Id}}
	case tree.Move:
		return []copy.Op{{Kind: copy.Move, Id: o.Id, Parent: o.Parent, Left: left}}
	case tree.SetProp:
		return []copy.Op{{Kind: copy.SetProp, Id: o.Id, Name: o.Name, Value: o.Value}}
	}
	var made []copy.Op
	spots := m.nodes[o.Id].spots()
	taken := slices.Clone(spots[o.From:o.To])
	slices.SortFunc(taken, func(a, b copy.Spot) int {
		return slices.Compare([]int{a.Stamp.Time, a.Stamp.Copy, a.At}, []int{b.Stamp.Time, b.Stamp.Copy, b.At})
	})
	for ; len(taken) > 0; taken = taken[min(500, len(taken)):] {
		made = append(made, copy.Op{Kind: copy.Erase, Id: o.Id, Spots: taken[:min(500, len(taken))]})
	}
	var after copy.Spot
	if o.From > 0 {
		after = spots[o.From-1]
	}
	for s := o.Text; s != ""; s = s[min(500, len(s)):] {
		made = append(made, copy.Op{Kind: copy.Type, Id: o.Id, After: after, Octets: s[:min(500, len(s))]})
		after = spot(-1, 0, 499)
	}
	return made
}

// timeOf gives the greatest time of some operations.
func timeOf(l []copy.Op) int {
	time := 0
	for _, o := range l {
		time = max(time, o.Stamp.Time)
	}
	return time
}

func TestChecksAgainstModel(t *testing.T) {
	var d dice
	found := map[api.Errno]int{}
	for range rounds(t, 40_000) {
		for _, o := range d.history(4) {
			o = d.spoilt(o)
			bad := copy.CheckOp(o)
			wantError(t, fmt.Sprintf("%.300s", fmt.Sprintf("%+v", o)), bad, modelCheck(o))
			found[bad]++
		}
	}
	for _, bad := range []api.Errno{api.OK, api.ErrForm, api.ErrRange, api.ErrName, api.ErrLarge, api.ErrOrder, api.ErrByte, api.ErrKind, api.ErrLoop, api.ErrStamp} {
		if found[bad] < 30 {
			t.Error(bad, found[bad])
		}
	}
}

func TestReadsAgainstModel(t *testing.T) {
	var d dice
	found := map[api.Errno]int{}
	for range rounds(t, 20_000) {
		s := d.spoiltLines(must(copy.OpsText(d.history(6))))
		got, bad := copy.ReadOps(s)
		wanted, wantedBad := modelRead(s)
		want(t, fmt.Sprintf("%q", s), got, wanted, bad, wantedBad)
		found[bad]++
		if bad == api.OK {
			written, bad := copy.OpsText(got)
			want(t, s, written, s, bad, api.OK)
		}
	}
	for _, bad := range []api.Errno{api.OK, api.ErrForm, api.ErrRange, api.ErrOrder, api.ErrSyntax, api.ErrLoop, api.ErrStamp} {
		if found[bad] < 15 {
			t.Error(bad, found[bad])
		}
	}
}

func TestReplaysAgainstModel(t *testing.T) {
	var d dice
	for i := range rounds(t, 4000) {
		l := d.some(d.history(60))
		base, gone, bad := copy.Replay(d.shuffled(l))
		wanted, wantedGone := modelOf(l).base()
		want(t, fmt.Sprint("base ", i), base, wanted, bad, api.OK)
		want(t, fmt.Sprint("gone ", i), gone, wantedGone, bad, api.OK)
		wantError(t, "Check", tree.Check(base), api.OK)
	}
}

// Beyond all bounds: a model of the bases with more blocks, kids, depths, octets and properties than there can be.
func TestBoundsAgainstModel(t *testing.T) {
	for i, l := range [][]copy.Op{
		crowd(9), append(crowd(9), chain(9000, 9000, 700, 50)...), kids(1, 1, 0, 510), chain(1, 1, 0, 50),
		append(append(crowd(5), moved(at(9000, 0), 1498, 499, 500), moved(at(9001, 0), 1, 1500, 0)), removed(at(9002, 0), 600), removed(at(9003, 0), 1501)),
	} {
		base, gone, bad := copy.Replay(l)
		wanted, wantedGone := modelOf(l).base()
		want(t, fmt.Sprint("base ", i), base, wanted, bad, api.OK)
		want(t, fmt.Sprint("gone ", i), gone, wantedGone, bad, api.OK)
	}
}
